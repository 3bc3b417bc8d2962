package short_test

import (
	"encoding/json"
	"fmt"
	"math"
	"math/big"
	"math/rand"
	"strconv"
	"strings"
	"testing"

	"propylon/api"
	"propylon/near"
	"propylon/short"
)

const (
	sign  = 1 << 63
	one   = 0x3FF0000000000000
	great = 0x7FEFFFFFFFFFFFFF
	inf   = 0x7FF0000000000000
	nan   = 0x7FF8000000000000

	// leastFull is the least pattern of x 1.
	leastFull = 1 << 52
)

// edges are patterns with their digits, x and text, written out.
var edges = []struct {
	bits   uint64
	digits string
	x      int
	text   string
}{
	{one, "1", 1, "1"}, {0x4000000000000000, "2", 1, "2"}, {0x4008000000000000, "3", 1, "3"}, {0x4022000000000000, "9", 1, "9"}, {0x4024000000000000, "1", 2, "10"}, {0x3FE0000000000000, "5", 0, "0.5"}, {0x3FD0000000000000, "25", 0, "0.25"}, {0x3FF8000000000000, "15", 1, "1.5"}, {0x3FB999999999999A, "1", 0, "0.1"}, {0x3FC999999999999A, "2", 0, "0.2"}, {0x3FD3333333333333, "3", 0, "0.3"}, {0x3FD3333333333334, "30000000000000004", 0, "0.30000000000000004"}, {0x3FD5555555555555, "3333333333333333", 0, "0.3333333333333333"}, {0x400921FB54442D18, "3141592653589793", 1, "3.141592653589793"}, {0x4059000000000000, "1", 3, "100"}, {0x405EDD2F1A9FBE77, "123456", 3, "123.456"},
	// Powers of 2 and the patterns beside them: the lower neighbour lies nearer.
	{one - 1, "9999999999999999", 0, "0.9999999999999999"}, {one + 1, "10000000000000002", 1, "1.0000000000000002"}, {0x4000000000000001, "20000000000000004", 1, "2.0000000000000004"}, {0x3FFFFFFFFFFFFFFF, "19999999999999998", 1, "1.9999999999999998"}, {0x3D30000000000000, "5684341886080802", -13, "5.684341886080802e-14"}, {0x43D0000000000000, "4611686018427388", 19, "4611686018427388000"}, {0x43E0000000000000, "9223372036854776", 19, "9223372036854776000"}, {0x43F0000000000000, "18446744073709552", 20, "18446744073709552000"},
	// Whole numbers about 2^53.
	{0x433FFFFFFFFFFFFF, "9007199254740991", 16, "9007199254740991"}, {0x4340000000000000, "9007199254740992", 16, "9007199254740992"}, {0x4340000000000001, "9007199254740994", 16, "9007199254740994"}, {0x4340000000000002, "9007199254740996", 16, "9007199254740996"}, {0x434FFFFFFFFFFFFF, "18014398509481982", 17, "18014398509481982"}, {0x4350000000000000, "18014398509481984", 17, "18014398509481984"}, {0x4350000000000001, "18014398509481988", 17, "18014398509481988"}, {0x4330000000000001, "4503599627370497", 16, "4503599627370497"}, {0x432FFFFFFFFFFFFF, "45035996273704955", 16, "4503599627370495.5"},
	// About 10^20, 10^21 and 10^22.
	{0x4415AF1D78B58C40, "1", 21, "100000000000000000000"}, {0x444B1AE4D6E2EF4F, "9999999999999999", 21, "999999999999999900000"}, {0x444B1AE4D6E2EF50, "1", 22, "1e+21"}, {0x444B1AE4D6E2EF51, "10000000000000001", 22, "1.0000000000000001e+21"}, {0x4480F0CF064DD592, "1", 23, "1e+22"}, {0x4480F0CF064DD591, "9999999999999998", 22, "9.999999999999998e+21"}, {0x4480F0CF064DD593, "10000000000000002", 23, "1.0000000000000002e+22"},
	// 10^23 and 7 times 10^22 lie in the middle of two patterns, the even one of which has them.
	{0x44B52D02C7E14AF6, "1", 24, "1e+23"}, {0x44B52D02C7E14AF7, "10000000000000001", 24, "1.0000000000000001e+23"}, {0x44ADA56A4B0835C0, "7", 23, "7e+22"}, {0x44ADA56A4B0835BF, "69999999999999996", 23, "6.9999999999999996e+22"},
	// Two rows of as few digits, 16 or 17, are as near: the even one.
	{0x4300000000000002, "5629499534213122", 15, "562949953421312.2"}, {0x4300000000000006, "5629499534213128", 15, "562949953421312.8"}, {0x42D6BCC41E900008, "10000000000000012", 15, "100000000000000.12"}, {0x42D6BCC41E900018, "10000000000000038", 15, "100000000000000.38"}, {0x42D6BCC41E900028, "10000000000000062", 15, "100000000000000.62"}, {0x42D6BCC41E900038, "10000000000000088", 15, "100000000000000.88"},
	// Texts about the bounds of x.
	{0x441AC53A7E04BCDA, "12345678901234568", 21, "123456789012345680000"}, {0x4450BB448EC2F608, "12345678901234568", 22, "1.2345678901234568e+21"}, {0x4454542BA12A337C, "15", 22, "1.5e+21"}, {0x3F50624DD2F1A9FC, "1", -2, "0.001"}, {0x3EB0C6F7A0B5ED8D, "1", -5, "0.000001"}, {0x3EB0C6F7A0B5ED8C, "9999999999999997", -6, "9.999999999999997e-7"}, {0x3EB4A2CF4D5AA6C0, "123", -5, "0.00000123"}, {0x3EAFE07017C01026, "95", -6, "9.5e-7"}, {0x3E7AD7F29ABCAF48, "1", -6, "1e-7"}, {0x3DDB7CDFD9D7BDBB, "1", -9, "1e-10"}, {0x2B2BFF2EE48E0530, "1", -99, "1e-100"}, {0x2B2BFF2EE48E052F, "9999999999999999", -100, "9.999999999999999e-101"}, {0x547D42AEA2879F2E, "1", 100, "1e+99"}, {0x54B249AD2594C37D, "1", 101, "1e+100"},
	// The least ones of x 0.
	{1, "5", -323, "5e-324"}, {2, "1", -322, "1e-323"}, {3, "15", -322, "1.5e-323"}, {4, "2", -322, "2e-323"}, {5, "25", -322, "2.5e-323"}, {6, "3", -322, "3e-323"}, {7, "35", -322, "3.5e-323"}, {8, "4", -322, "4e-323"}, {9, "44", -322, "4.4e-323"}, {10, "5", -322, "5e-323"}, {20, "1", -321, "1e-322"}, {21, "104", -321, "1.04e-322"},
	// About the least ones of x 1 and 2.
	{leastFull - 2, "22250738585072004", -307, "2.2250738585072004e-308"}, {leastFull - 1, "2225073858507201", -307, "2.225073858507201e-308"}, {leastFull, "22250738585072014", -307, "2.2250738585072014e-308"}, {leastFull + 1, "2225073858507202", -307, "2.225073858507202e-308"}, {2*leastFull - 1, "44501477170144023", -307, "4.4501477170144023e-308"}, {2 * leastFull, "4450147717014403", -307, "4.450147717014403e-308"}, {2*leastFull + 1, "4450147717014404", -307, "4.450147717014404e-308"},
	// About the least and the greatest one of x 2046.
	{0x7FDFFFFFFFFFFFFF, "8988465674311579", 308, "8.988465674311579e+307"}, {0x7FE0000000000000, "898846567431158", 308, "8.98846567431158e+307"}, {0x7FE0000000000001, "8988465674311582", 308, "8.988465674311582e+307"}, {great - 2, "17976931348623153", 309, "1.7976931348623153e+308"}, {great - 1, "17976931348623155", 309, "1.7976931348623155e+308"}, {great, "17976931348623157", 309, "1.7976931348623157e+308"},
}

// others are patterns that are not Finite, with their texts.
var others = []struct {
	bits uint64
	text string
}{
	{0, "0"}, {sign, "-0"}, {inf, "Infinity"}, {sign | inf, "-Infinity"},
	{nan, "NaN"}, {sign | nan, "NaN"}, {nan | 1, "NaN"}, {inf | 1, "NaN"}, {sign | inf | 1, "NaN"}, {inf | 1<<26, "NaN"}, {inf | (1<<51 - 1), "NaN"}, {sign | inf | 1<<50, "NaN"}, {inf | (1<<52 - 1), "NaN"}, {1<<64 - 1, "NaN"}, {1<<63 - 1, "NaN"},
}

// fracs are an f whose lowest bit is 0 or 1, at either end of the 52 bits and in the midst.
var fracs = []uint64{0, 1, 2, 1<<51 - 1, 1 << 51, 1<<52 - 2, 1<<52 - 1, 0x3243F6A8885A3}

// exact is the number of a pattern without its sign.
func exact(b uint64) *big.Rat {
	return new(big.Rat).SetFloat64(math.Abs(math.Float64frombits(b)))
}

// tens is 10 to the x.
func tens(x int) *big.Rat {
	p := new(big.Int).Exp(big.NewInt(10), big.NewInt(int64(max(x, -x))), nil)
	if x < 0 {
		return new(big.Rat).SetFrac(big.NewInt(1), p)
	}
	return new(big.Rat).SetInt(p)
}

// about are the rows of n digits, or of one more and noughts, just below or at, and just above 0.digits times 10^x, and that number counted in their last digit.
func about(b uint64, n, x int) (down, up *big.Int, at *big.Rat) {
	at = new(big.Rat).Mul(exact(b), tens(n-x))
	down = new(big.Int).Quo(at.Num(), at.Denom())
	return down, new(big.Int).Add(down, big.NewInt(1)), at
}

// isRead says whether a row whose last digit is worth 10^last is read as the pattern without its sign.
func isRead(row *big.Int, last int, b uint64) bool {
	s := row.String()
	got, ok := near.Read(s, len(s)+last)
	return ok && got == b&^sign
}

// nearest is the row of n digits that is read as the pattern, the nearest one or of two as near the even one, if there is one; tie tells whether two are as near.
func nearest(b uint64, n, x int) (row *big.Int, ok, tie bool) {
	down, up, at := about(b, n, x)
	below, above := isRead(down, x-n, b), isRead(up, x-n, b)
	middle := new(big.Rat).SetFrac(new(big.Int).Add(down, up), big.NewInt(2))
	order := at.Cmp(middle)
	if !below || above && (order > 0 || order == 0 && down.Bit(0) == 1) {
		return up, above, below && order == 0
	}
	return down, true, above && order == 0
}

// best takes digits away as long as a row is read as the pattern: where there is none of n digits, there is none of fewer, since noughts behind those change nothing.
func best(t *testing.T, b uint64, x int) (digits string, place int, tie bool) {
	t.Helper()
	for n := 17; n > 0; n-- {
		row, ok, even := nearest(b, n, x)
		if !ok {
			break
		}
		s := row.String()
		digits, place, tie = strings.TrimRight(s, "0"), len(s)+x-n, even
	}
	if digits == "" {
		t.Fatalf("no 17 digits are read as %016x", b)
	}
	return digits, place, tie
}

// scale is the x of the pattern's number, rounded down.
func scale(b uint64) int {
	_, after, _ := strings.Cut(strconv.FormatFloat(math.Float64frombits(b), 'e', 25, 64), "e")
	x, _ := strconv.Atoi(after)
	return x + 1
}

// written is what the library writes for a number in JSON, which has the same bounds.
func written(t *testing.T, b uint64) string {
	t.Helper()
	s, err := json.Marshal(math.Float64frombits(b))
	if err != nil {
		t.Fatal(err)
	}
	return string(s)
}

func isRow(s string) bool {
	return s != "" && strings.Trim(s, "0123456789") == "" && s[0] != '0' && s[len(s)-1] != '0'
}

// tells holds Digits and Text to an answer that is known, of either sign.
func tells(t *testing.T, b uint64, digits string, x int, text string) {
	t.Helper()
	for _, pattern := range []uint64{b, b ^ sign} {
		if d, n, ok := short.Digits(pattern); d != digits || n != x || !ok {
			t.Errorf("Digits(%016x): %s, %d, %v, not %s, %d, true", pattern, d, n, ok, digits, x)
		}
	}
	if s := short.Text(b &^ sign); s != text {
		t.Errorf("Text(%016x): %s, not %s", b&^sign, s, text)
	}
	if s := short.Text(b | sign); s != "-"+text {
		t.Errorf("Text(%016x): %s, not -%s", b|sign, s, text)
	}
}

// holds asks all three promises for a Finite pattern, and says whether two rows were as near.
func holds(t *testing.T, b uint64) bool {
	t.Helper()
	d, x, ok := short.Digits(b)
	if !ok || !isRow(d) {
		t.Errorf("Digits(%016x): %q, %d, %v: no row of digits", b, d, x, ok)
		return false
	}
	want, place, tie := best(t, b, scale(b))
	if d != want || x != place {
		t.Errorf("Digits(%016x): %s, %d, not %s, %d", b, d, x, want, place)
	}
	goesBack(t, b)
	return tie
}

// goesBack leaves out what takes long: the rows that are not taken.
func goesBack(t *testing.T, b uint64) {
	t.Helper()
	d, x, ok := short.Digits(b)
	if got, reads := near.Read(d, x); got != b&^sign || !ok || !reads || !isRow(d) {
		t.Errorf("Digits(%016x): %s, %d, %v, which is read as %016x, %v", b, d, x, ok, got, reads)
	}
	if other, place, also := short.Digits(b ^ sign); other != d || place != x || !also {
		t.Errorf("Digits(%016x): %s, %d, but of the other sign %s, %d, %v", b, d, x, other, place, also)
	}
	s := short.Text(b)
	if got, err := near.Parse(s); got != b || err != api.OK {
		t.Errorf("Text(%016x): %s, which is parsed as %016x, %d", b, s, got, err)
	}
	if want := written(t, b); s != want {
		t.Errorf("Text(%016x): %s, not %s", b, s, want)
	}
}

// beside are a pattern and those about it, as far as they are Finite.
func beside(b uint64, far int) []uint64 {
	var all []uint64
	for add := -far; add <= far; add++ {
		if p := b + uint64(add); p >= 1 && p <= great {
			all = append(all, p)
		}
	}
	return all
}

// refuses also holds R2: with false there are an empty text and 0.
func refuses(t *testing.T, b uint64) {
	t.Helper()
	if d, x, ok := short.Digits(b); d != "" || x != 0 || ok {
		t.Errorf("Digits(%016x): %q, %d, %v, not empty, 0, false", b, d, x, ok)
	}
}

// bitsOf is the pattern of a number of JSON, by the library.
func bitsOf(t *testing.T, s string) uint64 {
	t.Helper()
	f, err := strconv.ParseFloat(s, 64)
	if err != nil {
		t.Fatal(err)
	}
	return math.Float64bits(f)
}

// drawnRow is a row of n digits that neither begins nor ends with a nought.
func drawnRow(rnd *rand.Rand, n int) string {
	b := make([]byte, n)
	for i := range b {
		b[i] = byte('0' + rnd.Intn(10))
	}
	b[0] = byte('1' + rnd.Intn(9))
	if n > 1 {
		b[n-1] = byte('1' + rnd.Intn(9))
	}
	return string(b)
}

// P13.1, P13.2, P13.3: edges, written out

func TestEdges(t *testing.T) {
	for _, c := range edges {
		tells(t, c.bits, c.digits, c.x, c.text)
		holds(t, c.bits)
		holds(t, c.bits|sign)
	}
}

func TestOthers(t *testing.T) {
	for _, c := range others {
		refuses(t, c.bits)
		if s := short.Text(c.bits); s != c.text {
			t.Errorf("Text(%016x): %s, not %s", c.bits, s, c.text)
		}
	}
	for _, b := range []uint64{0, sign} {
		if got, err := near.Parse(short.Text(b)); got != b || err != api.OK {
			t.Errorf("Text(%016x) is parsed as %016x, %d", b, got, err)
		}
	}
}

func TestEachNaN(t *testing.T) {
	rnd := rand.New(rand.NewSource(131))
	for i := range 3000 {
		f := uint64(1) << (i % 52)
		if i >= 52 {
			f |= rnd.Uint64() & (1<<52 - 1)
		}
		for _, b := range []uint64{inf | f, sign | inf | f} {
			refuses(t, b)
			if s := short.Text(b); s != "NaN" {
				t.Errorf("Text(%016x): %s, not NaN", b, s)
			}
		}
	}
}

// P13.1, P13.3: many patterns

func TestEachX(t *testing.T) {
	for x := range uint64(2047) {
		for i, f := range fracs {
			if b := x<<52 | f; b == 0 {
				refuses(t, b)
			} else if (x+uint64(i))%2 == 0 || x < 40 || x > 2040 {
				holds(t, b)
			} else {
				goesBack(t, b|sign)
			}
		}
	}
}

// Powers of 2 have a lower neighbour that lies nearer than the upper one: so a row that is the nearest of its length may not be read as it, and the one on the other side is.
func TestPowersOf2(t *testing.T) {
	farther := 0
	for x := range uint64(2047) {
		for _, b := range beside(x<<52, 1) {
			holds(t, b)
		}
		if b := x << 52; b != 0 && isFarther(b) {
			farther++
		}
	}
	for i := range 52 {
		holds(t, 1<<i)
	}
	if farther == 0 {
		t.Error("for no power of 2 the nearest row is not read as it")
	}
}

// isFarther says whether the row that is told is not the nearest one of as many digits.
func isFarther(b uint64) bool {
	d, x, _ := short.Digits(b)
	_, _, at := about(b, len(d), x)
	n, _ := new(big.Rat).SetString(d)
	apart := n.Sub(n, at)
	return apart.Abs(apart).Cmp(big.NewRat(1, 2)) > 0
}

func TestPowersOf10(t *testing.T) {
	for x := -323; x <= 308; x++ {
		b := bitsOf(t, "1e"+strconv.Itoa(x))
		if d, n, ok := short.Digits(b); d != "1" || n != x+1 || !ok {
			t.Errorf("Digits of 10^%d: %s, %d, %v", x, d, n, ok)
		}
		for _, p := range beside(b, 3) {
			holds(t, p)
		}
	}
}

func TestLeastAndGreatestPatterns(t *testing.T) {
	for _, b := range []uint64{1, 1000, 1 << 20, leastFull / 2, leastFull, 2 * leastFull, great - 2*leastFull, 0x7FE0000000000000, great} {
		for _, p := range beside(b, 120) {
			holds(t, p)
		}
	}
}

// P13.1: numbers of digits

// Rows of up to 15 digits are told as they are, if x is not near the bounds.
func TestRowsOfEachLength(t *testing.T) {
	rnd := rand.New(rand.NewSource(132))
	for n := 1; n <= 15; n++ {
		for range 120 {
			row, x := drawnRow(rnd, n), rnd.Intn(614)-306
			b := bitsOf(t, "0."+row+"e"+strconv.Itoa(x))
			if d, place, ok := short.Digits(b); d != row || place != x || !ok {
				t.Errorf("Digits(%016x): %s, %d, %v, not %s, %d", b, d, place, ok, row, x)
			}
			goesBack(t, b)
			holds(t, b^sign)
		}
	}
}

// Each of 1 to 17 digits is there, of numbers of every size.
func TestPatternsOfEachLength(t *testing.T) {
	rnd := rand.New(rand.NewSource(133))
	var seen [18]int
	for n := 1; n <= 17; n++ {
		for range 150 {
			b := bitsOf(t, "0."+drawnRow(rnd, n)+"e"+strconv.Itoa(rnd.Intn(626)-320))
			if b == 0 || b > great {
				continue
			}
			holds(t, b)
			d, _, _ := short.Digits(b)
			seen[min(len(d), 17)]++
		}
	}
	for n := 1; n <= 17; n++ {
		if seen[n] == 0 {
			t.Errorf("no pattern of %d digits", n)
		}
	}
}

// No double needs more than 17 digits.
func TestAnyPatterns(t *testing.T) {
	rnd := rand.New(rand.NewSource(134))
	for i := range 6000 {
		b := rnd.Uint64()
		switch i % 4 {
		case 0:
			b &^= 0x7FF << 52
		case 1:
			b &^= 1<<rnd.Intn(53) - 1
		case 2:
			b = b&^(0x7FF<<52) | uint64(1000+rnd.Intn(100))<<52
		}
		if size := b &^ sign; size == 0 || size > great {
			refuses(t, b)
			continue
		}
		holds(t, b)
		if d, _, _ := short.Digits(b); len(d) > 17 {
			t.Errorf("Digits(%016x): %s: more than 17", b, d)
		}
	}
}

// P13.1: rows as near, and rows in a middle

// A quarter or three quarters, where the last digit is worth a tenth, and the like.
func TestRowsAsNear(t *testing.T) {
	rnd := rand.New(rand.NewSource(135))
	ties, up := 0, 0
	for range 12000 {
		parts := 2 + rnd.Intn(9)
		m := uint64(1)<<(52-rnd.Intn(4)) + uint64(rnd.Int63n(1<<50))
		m = m&^3 | 2
		b := math.Float64bits(math.Ldexp(float64(m), -parts))
		if !holds(t, b) {
			continue
		}
		ties++
		d, x, _ := short.Digits(b)
		if (d[len(d)-1]-'0')%2 != 0 {
			t.Errorf("Digits(%016x): %s, but the even one is as near", b, d)
		}
		if n, _ := new(big.Rat).SetString(d); n.Mul(n, tens(x-len(d))).Cmp(exact(b)) > 0 {
			up++
		}
	}
	if up == 0 || up == ties {
		t.Errorf("of %d with two rows as near %d have the upper one", ties, up)
	}
}

// Small patterns have several rows of as few digits.
func TestSeveralRows(t *testing.T) {
	several := 0
	for b := uint64(1); b <= 700; b++ {
		holds(t, b)
		d, x, _ := short.Digits(b)
		n, _ := new(big.Int).SetString(d, 10)
		for _, add := range []int64{-1, 1} {
			if isRead(new(big.Int).Add(n, big.NewInt(add)), x-len(d), b) {
				several++
			}
		}
	}
	if several == 0 {
		t.Error("no pattern has several rows")
	}
}

// Numbers of 54 bits times a power of 10 lie just in the middle of two patterns: the even one has their row, the odd one does not.
func TestRowsInTheMiddle(t *testing.T) {
	rnd := rand.New(rand.NewSource(136))
	taken := 0
	for k := 1; k <= 23; k++ {
		fives := new(big.Int).Exp(big.NewInt(5), big.NewInt(int64(k)), nil).Uint64()
		for range 60 {
			least, most := (1<<53)/fives+1, (1<<54-1)/fives
			d := (least + uint64(rnd.Int63n(int64(most-least+1)))) | 1
			if d > most || d%5 == 0 && d > 5 {
				continue
			}
			m, row := d*fives/2, strconv.FormatUint(d, 10)
			below := math.Float64bits(math.Ldexp(float64(m), k+1))
			even, odd := below+below&1, below+1-below&1
			holds(t, even)
			holds(t, odd)
			if !isRead(new(big.Int).SetUint64(d), k, even) {
				t.Fatalf("%s times 10^%d is not in the middle about %016x", row, k, below)
			}
			if s, _, _ := short.Digits(odd); s == row {
				t.Errorf("Digits(%016x): %s, which is read as %016x", odd, s, even)
			}
			if s, _, _ := short.Digits(even); s == row {
				taken++
			} else if len(s) > len(row) {
				t.Errorf("Digits(%016x): %s, but %s is read as it", even, s, row)
			}
		}
	}
	if taken == 0 {
		t.Error("no pattern has the row in the middle")
	}
}

// P13.1, P13.2: whole numbers

func TestWholeNumbers(t *testing.T) {
	rnd := rand.New(rand.NewSource(137))
	var list []int64
	for i := range int64(1100) {
		list = append(list, i+1)
	}
	for i := range 54 {
		for add := int64(-2); add <= 2; add++ {
			list = append(list, min(max(1<<i+add, 1), 1<<53))
		}
		list = append(list, rnd.Int63n(1<<i)+1)
	}
	for x := int64(10); x <= 1e15; x *= 10 {
		list = append(list, x-1, x, x+1, 5*x, 5*x+1)
	}
	for _, v := range list {
		s := strconv.FormatInt(v, 10)
		tells(t, math.Float64bits(float64(v)), strings.TrimRight(s, "0"), len(s), s)
	}
}

// Beyond 2^53 the digits are not all told, and noughts stand for the others, up to 21 places.
func TestGreatWholeNumbers(t *testing.T) {
	rnd := rand.New(rand.NewSource(138))
	for range 1500 {
		b := uint64(0x434+rnd.Intn(20))<<52 | rnd.Uint64()&(1<<52-1)
		holds(t, b)
		d, x, _ := short.Digits(b)
		s := short.Text(b)
		if x <= 21 && s != d+strings.Repeat("0", x-len(d)) {
			t.Errorf("Text(%016x): %s, of %s, %d", b, s, d, x)
		}
		if strings.Contains(s, "e") != (x > 21) {
			t.Errorf("Text(%016x): %s, of %s, %d", b, s, d, x)
		}
	}
}

// P13.2

// laid follows the chapter's sentence, word by word.
func laid(digits string, x int) string {
	n := len(digits)
	if x >= 1 && x <= 21 {
		if n <= x {
			return digits + strings.Repeat("0", x-n)
		}
		return digits[:x] + "." + digits[x:]
	}
	if x >= -5 && x <= 0 {
		return "0." + strings.Repeat("0", -x) + digits
	}
	point := ""
	if n > 1 {
		point = "."
	}
	return fmt.Sprintf("%s%s%se%+d", digits[:1], point, digits[1:], x-1)
}

// Each x with each number of digits: fewer than x, as many, more.
func TestTextOfEachX(t *testing.T) {
	rnd := rand.New(rand.NewSource(139))
	for x := -306; x <= 307; x++ {
		for n := 1; n <= 15; n++ {
			if n > 2 && n < 15 && (x < -10 || x > 25) {
				continue
			}
			row := drawnRow(rnd, n)
			tells(t, bitsOf(t, "0."+row+"e"+strconv.Itoa(x)), row, x, laid(row, x))
		}
	}
}

func TestTextOfSixteenDigitsAndMore(t *testing.T) {
	rnd := rand.New(rand.NewSource(140))
	for x := -40; x <= 40; x++ {
		for range 15 {
			b := bitsOf(t, "0."+drawnRow(rnd, 17)+"e"+strconv.Itoa(x))
			d, n, _ := short.Digits(b)
			tells(t, b, d, n, laid(d, n))
		}
	}
}

func TestTextAtTheBoundsOfX(t *testing.T) {
	for _, c := range []struct{ number, text string }{
		{"1e20", "100000000000000000000"}, {"9e20", "900000000000000000000"}, {"123e18", "123000000000000000000"}, {"1e21", "1e+21"}, {"12e20", "1.2e+21"}, {"9.9e21", "9.9e+21"}, {"1e22", "1e+22"}, {"1e30", "1e+30"}, {"123e98", "1.23e+100"},
		{"1", "1"}, {"9", "9"}, {"1.5", "1.5"}, {"9.75", "9.75"}, {"0.5", "0.5"}, {"0.75", "0.75"}, {"0.05", "0.05"}, {"0.0012", "0.0012"}, {"0.000001", "0.000001"}, {"0.00000999", "0.00000999"}, {"9e-6", "0.000009"}, {"9e-7", "9e-7"}, {"9.99e-7", "9.99e-7"}, {"1e-7", "1e-7"}, {"12e-8", "1.2e-7"}, {"1e-9", "1e-9"}, {"1e-10", "1e-10"}, {"1.5e-99", "1.5e-99"}, {"1.5e-100", "1.5e-100"}, {"1e-100", "1e-100"}, {"5e-324", "5e-324"},
		{"12", "12"}, {"120", "120"}, {"12.5", "12.5"}, {"123456789.5", "123456789.5"}, {"1234567890.5", "1234567890.5"}, {"100.25", "100.25"}, {"1000000", "1000000"}, {"123456789012345", "123456789012345"}, {"12345678901234.5", "12345678901234.5"},
	} {
		b := bitsOf(t, c.number)
		if s := short.Text(b); s != c.text {
			t.Errorf("Text of %s: %s, not %s", c.number, s, c.text)
		}
		if s := short.Text(b | sign); s != "-"+c.text {
			t.Errorf("Text of -%s: %s, not -%s", c.number, s, c.text)
		}
		goesBack(t, b)
	}
}

// R1, R5: no call panics, and each one answers as it did before, whatever was asked between.
func TestCallsOfAny(t *testing.T) {
	rnd := rand.New(rand.NewSource(141))
	for range 4000 {
		b := rnd.Uint64() &^ (1<<rnd.Intn(65) - 1)
		first := answers(b)
		answers(rnd.Uint64() >> rnd.Intn(64))
		if again := answers(b); again != first {
			t.Errorf("%016x: %s, and then %s", b, first, again)
		}
	}
}

// answers are those of both calls, as a text.
func answers(b uint64) string {
	d, x, ok := short.Digits(b)
	return fmt.Sprint(d, x, ok, short.Text(b))
}
