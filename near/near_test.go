package near_test

import (
	"cmp"
	"fmt"
	"math"
	"math/big"
	"math/rand"
	"regexp"
	"slices"
	"strconv"
	"strings"
	"testing"

	"propylon/api"
	"propylon/near"
)

const (
	sign  = 1 << 63
	one   = 0x3FF0000000000000
	great = 0x7FEFFFFFFFFFFFFF

	// leastFull is the least pattern of x 1.
	leastFull = 1 << 52
)

// edges are digits at a bound, with x and the pattern, written out.
var edges = []struct {
	digits string
	x      int
	want   uint64
}{
	{"1", 0, 0x3FB999999999999A}, {"1", 1, one}, {"2", 1, 0x4000000000000000}, {"3", 1, 0x4008000000000000}, {"4", 1, 0x4010000000000000}, {"5", 1, 0x4014000000000000}, {"6", 1, 0x4018000000000000}, {"7", 1, 0x401C000000000000}, {"8", 1, 0x4020000000000000}, {"9", 1, 0x4022000000000000}, {"5", 0, 0x3FE0000000000000}, {"25", 0, 0x3FD0000000000000}, {"15", 1, 0x3FF8000000000000}, {"75", 0, 0x3FE8000000000000}, {"2", 0, 0x3FC999999999999A}, {"3", 0, 0x3FD3333333333333}, {"9", 0, 0x3FECCCCCCCCCCCCD}, {"10", 2, 0x4024000000000000}, {"123", 3, 0x405EC00000000000}, {"314159265358979", 1, 0x400921FB54442D11}, {"1", 22, 0x444B1AE4D6E2EF50},
	// Whole numbers of 53, 54 and 64 bits.
	{"4503599627370496", 16, 0x4330000000000000}, {"4503599627370497", 16, 0x4330000000000001}, {"9007199254740991", 16, 0x433FFFFFFFFFFFFF}, {"9007199254740990", 16, 0x433FFFFFFFFFFFFE}, {"9007199254740992", 16, 0x4340000000000000}, {"9007199254740993", 16, 0x4340000000000000}, {"9007199254740994", 16, 0x4340000000000001}, {"9007199254740995", 16, 0x4340000000000002}, {"9007199254740996", 16, 0x4340000000000002}, {"9007199254740997", 16, 0x4340000000000002}, {"9007199254740999", 16, 0x4340000000000004}, {"18014398509481981", 17, 0x434FFFFFFFFFFFFE}, {"18014398509481982", 17, 0x434FFFFFFFFFFFFF}, {"18014398509481983", 17, 0x4350000000000000}, {"18014398509481984", 17, 0x4350000000000000},
	{"9223372036854775807", 19, 0x43E0000000000000}, {"9223372036854775808", 19, 0x43E0000000000000}, {"9223372036854776832", 19, 0x43E0000000000000}, {"9223372036854776833", 19, 0x43E0000000000001}, {"9223372036854777856", 19, 0x43E0000000000001}, {"9223372036854778879", 19, 0x43E0000000000001}, {"9223372036854778880", 19, 0x43E0000000000002}, {"18446744073709549568", 20, 0x43EFFFFFFFFFFFFF}, {"18446744073709550591", 20, 0x43EFFFFFFFFFFFFF}, {"18446744073709550592", 20, 0x43F0000000000000}, {"18446744073709551615", 20, 0x43F0000000000000}, {"18446744073709551616", 20, 0x43F0000000000000},
	// About the middles of 1 and its neighbours, whose units are not alike.
	{"100000000000000011102230246251565404236316680908203125", 1, one}, {"100000000000000011102230246251565404236316680908203124", 1, one}, {"100000000000000011102230246251565404236316680908203126", 1, 0x3FF0000000000001}, {"1000000000000000111022302462515654042363166809082031250000000000000000000001", 1, 0x3FF0000000000001}, {"100000000000000033306690738754696212708950042724609375", 1, 0x3FF0000000000002}, {"100000000000000033306690738754696212708950042724609374", 1, 0x3FF0000000000001}, {"99999999999999994448884876874217297881841659545898437500", 0, one}, {"99999999999999994448884876874217297881841659545898437499", 0, 0x3FEFFFFFFFFFFFFF}, {"99999999999999983346654630622651893645524978637695312500", 0, 0x3FEFFFFFFFFFFFFE},
	// From nought to the least pattern and on.
	{"24703282292062327", -323, 0}, {"24703282292062328", -323, 1}, {"2470328229206232720", -323, 0}, {"2470328229206232721", -323, 1}, {"247", -323, 0}, {"248", -323, 1}, {"2", -323, 0}, {"3", -323, 1}, {"1", -323, 0}, {"9", -324, 0}, {"99999999999999999999", -324, 0}, {"1", -324, 0}, {"1", -322, 2}, {"49", -323, 1}, {"5", -323, 1}, {"49406564584124654", -323, 1}, {"74109846876186981", -323, 1}, {"74109846876186982", -323, 2}, {"7", -323, 1}, {"8", -323, 2}, {"12", -322, 2}, {"13", -322, 3}, {"123516411460311636", -322, 2}, {"123516411460311637", -322, 3},
	// About the least one of x 1.
	{"22250738585072004", -307, 0x000FFFFFFFFFFFFE}, {"22250738585072009", -307, 0x000FFFFFFFFFFFFF}, {"22250738585072011", -307, 0x000FFFFFFFFFFFFF}, {"22250738585072012", -307, leastFull}, {"22250738585072014", -307, leastFull}, {"22250738585072019", -307, 0x0010000000000001}, {"22250738585072016", -307, leastFull}, {"22250738585072017", -307, 0x0010000000000001}, {"44501477170144023", -307, 0x001FFFFFFFFFFFFF}, {"44501477170144028", -307, 0x0020000000000000},
	// About the greatest one.
	{"17976931348623157", 309, great}, {"17976931348623158", 309, great}, {"179769313486231570", 309, great}, {"179769313486231580", 309, great}, {"1797693134862315807", 309, great}, {"17976931348623155", 309, great - 1}, {"17976931348623156", 309, great - 1}, {"17976931348623153", 309, great - 2}, {"1", 309, 0x7FE1CCF385EBC8A0}, {"15", 309, 0x7FEAB36D48E1ACF0},
}

// tooGreat are digits with an x beyond all doubles, written out.
var tooGreat = []struct {
	digits string
	x      int
}{
	{"17976931348623159", 309}, {"1797693134862315808", 309}, {"179769313486231581", 309}, {"1798", 309}, {"18", 309}, {"2", 309}, {"9", 309}, {"99999999999999999999", 309}, {"1", 310}, {"17976931348623157", 310}, {"2", 310}, {"1", 311}, {"01", 311}, {"0018", 311}, {"1", 400}, {"1", 1000}, {"1", 1001}, {"1", 1 << 20},
}

// exes are an x that is far out, or at a bound of int, of int32 or of what the number of digits can move.
var exes = []int{
	math.MinInt, math.MinInt + 1, math.MinInt + 16, math.MinInt + 298, math.MinInt + 299, math.MinInt + 300, math.MinInt + 301, -1 << 62, math.MinInt32 - 301, math.MinInt32 - 1, math.MinInt32, math.MinInt32 + 1, -1 << 20, -65536, -32769, -5000, -1301, -1300, -1075, -1074, -1001, -1000, -999, -701, -700, -699,
	699, 700, 701, 999, 1000, 1001, 1023, 1024, 1300, 1301, 5000, 32768, 65536, 1 << 20, math.MaxInt32 - 1, math.MaxInt32, math.MaxInt32 + 1, 1<<32 - 1, 1 << 32, 1<<32 + 1, 1<<32 + 309, 1 << 62, math.MaxInt - 301, math.MaxInt - 300, math.MaxInt - 299, math.MaxInt - 1, math.MaxInt,
}

// number tells apart the numbers of JSON by an expression.
var number = regexp.MustCompile(`\A-?(0|[1-9][0-9]*)(\.[0-9]+)?([eE][+-]?[0-9]+)?\z`)

// clipped is a text short enough to be told.
func clipped(s string) string {
	if len(s) > 60 {
		return fmt.Sprintf("%q .. %q (%d bytes)", s[:25], s[len(s)-25:], len(s))
	}
	return strconv.Quote(s)
}

func reads(t *testing.T, digits string, x int, want uint64) {
	t.Helper()
	if b, ok := near.Read(digits, x); b != want || !ok {
		t.Errorf("Read(%s, %d): %016x, %v, not %016x, true", clipped(digits), x, b, ok, want)
	}
}

// refuses also holds R2: with false there is 0.
func refuses(t *testing.T, digits string, x int) {
	t.Helper()
	if b, ok := near.Read(digits, x); b != 0 || ok {
		t.Errorf("Read(%s, %d): %016x, %v, not 0, false", clipped(digits), x, b, ok)
	}
}

func parses(t *testing.T, s string, want uint64) {
	t.Helper()
	if b, err := near.Parse(s); b != want || err != api.OK {
		t.Errorf("Parse(%s): %016x, %d, not %016x, OK", clipped(s), b, err, want)
	}
}

// fails also holds R2: with an error there is 0.
func fails(t *testing.T, s string, want api.Errno) {
	t.Helper()
	if b, err := near.Parse(s); b != 0 || err != want {
		t.Errorf("Parse(%s): %016x, %d, not 0, %d", clipped(s), b, err, want)
	}
}

// exact is 0.digits times 10^x, without a bound.
func exact(digits string, x int) *big.Rat {
	n, ok := new(big.Int).SetString(digits, 10)
	if !ok {
		panic(digits)
	}
	return scaled(n, x-len(digits))
}

// scaled is n times 10^x.
func scaled(n *big.Int, x int) *big.Rat {
	tens := new(big.Int).Exp(big.NewInt(10), big.NewInt(int64(max(x, -x))), nil)
	if x < 0 {
		return new(big.Rat).SetFrac(n, tens)
	}
	return new(big.Rat).SetInt(new(big.Int).Mul(n, tens))
}

// nearest asks numbers without a bound. An x far out is told by its side alone.
func nearest(digits string, x int) (uint64, bool) {
	switch {
	case strings.Trim(digits, "0") == "":
		return 0, true
	case x < -1000:
		return 0, true
	case x > 1000:
		return 0, false
	}
	f, _ := exact(digits, x).Float64()
	if math.IsInf(f, 0) {
		return 0, false
	}
	return math.Float64bits(f), true
}

func judges(t *testing.T, digits string, x int) {
	t.Helper()
	if want, ok := nearest(digits, x); ok {
		reads(t, digits, x, want)
	} else {
		refuses(t, digits, x)
	}
}

// asks holds Parse against an expression and the standard library.
func asks(t *testing.T, s string) {
	t.Helper()
	if !number.MatchString(s) {
		fails(t, s, api.ErrForm)
		return
	}
	f, err := strconv.ParseFloat(s, 64)
	if err != nil || len(s) > 300 {
		fails(t, s, api.ErrNum)
		return
	}
	parses(t, s, math.Float64bits(f))
}

// value is the number of a pattern without a sign; that of the pattern above the greatest one is 2^1024.
func value(b uint64) *big.Rat {
	if b == great+1 {
		return new(big.Rat).SetInt(new(big.Int).Lsh(big.NewInt(1), 1024))
	}
	return new(big.Rat).SetFloat64(math.Float64frombits(b))
}

// middle is the number halfway from a pattern to the one above it.
func middle(b uint64) *big.Rat {
	sum := new(big.Rat).Add(value(b), value(b+1))
	return sum.Quo(sum, big.NewRat(2, 1))
}

// written are the digits of a number whose denominator is a power of 2, without noughts behind them, and its x.
func written(r *big.Rat) (string, int) {
	down := r.Denom().BitLen() - 1
	fives := new(big.Int).Exp(big.NewInt(5), big.NewInt(int64(down)), nil)
	all := fives.Mul(fives, r.Num()).String()
	return strings.TrimRight(all, "0"), len(all) - down
}

// beside are the numbers of n digits just below and just above one of other digits.
func beside(t *testing.T, digits string, n int) (below, above string) {
	t.Helper()
	if len(digits) > n {
		below = digits[:n]
		return below, moved(t, below, 1)
	}
	full := digits + strings.Repeat("0", n-len(digits))
	return moved(t, full, -1), moved(t, full, 1)
}

// moved is the number of as many digits that is by n greater.
func moved(t *testing.T, digits string, n int64) string {
	t.Helper()
	v, ok := new(big.Int).SetString(digits, 10)
	if !ok {
		t.Fatal(digits)
	}
	s := fmt.Sprintf("%0*s", len(digits), v.Add(v, big.NewInt(n)).String())
	if len(s) != len(digits) {
		t.Fatalf("%s is not as long as %s", s, digits)
	}
	return s
}

// fracs are an f whose lowest bit is 0 or 1, at either end of the 52 bits and in the midst.
var fracs = []uint64{0, 1, 1<<51 - 1, 1 << 51, 1<<52 - 2, 1<<52 - 1, 0x3243F6A8885A3}

// patterns are all x with each of the fracs.
func patterns() []uint64 {
	var all []uint64
	for x := range uint64(2047) {
		for _, f := range fracs {
			all = append(all, x<<52|f)
		}
	}
	return all
}

// drawn is a row of n digits, at times with many noughts or nines in it.
func drawn(rnd *rand.Rand, n int) string {
	b := make([]byte, n)
	for i := range b {
		b[i] = byte('0' + rnd.Intn(10))
	}
	if rnd.Intn(3) == 0 {
		from := rnd.Intn(n)
		part := b[from : from+rnd.Intn(n-from+1)]
		filler := []byte("009")[rnd.Intn(3)]
		for i := range part {
			part[i] = filler
		}
	}
	return string(b)
}

// drawnLength is a number from 1 to 300, of small ones as often as of great ones.
func drawnLength(rnd *rand.Rand) int {
	return []int{1, 1 + rnd.Intn(5), 15 + rnd.Intn(6), 1 + rnd.Intn(40), 1 + rnd.Intn(300), 300}[rnd.Intn(6)]
}

// P12.1: which digits are taken

func TestReadAtEdges(t *testing.T) {
	for _, c := range edges {
		reads(t, c.digits, c.x, c.want)
		judges(t, c.digits, c.x)
	}
	for _, c := range tooGreat {
		refuses(t, c.digits, c.x)
		judges(t, c.digits, c.x)
	}
}

func TestReadOfNoDigits(t *testing.T) {
	for _, digits := range []string{
		"", "-", "+", ".", "e", "x", " ", "\x00", "\xff", "/", ":", "-1", "+1", "1-", "1+", "-0", "+0", ".1", "1.", "1.5", "0.0", "1e5", "1E5", "1e", "e5", "0x1", "0b1", "1_0", "_1", "1_", "1,0", " 1", "1 ", "1 2", "\t1", "1\n", "1\x00", "\x001", "12a", "a12", "1a2", "A", "f", "inf", "Inf", "Infinity", "NaN", "nan", "None", "١", "1١", "１", "²", "\xb1", "\xb9", "1\x80", "0\xff0", "00 ", "00\x00",
	} {
		for _, x := range append([]int{-400, -1, 0, 1, 2, 300, 309, 400}, exes...) {
			refuses(t, digits, x)
		}
	}
}

// Every byte at every place: the digits alone are taken.
func TestReadOfEachByte(t *testing.T) {
	for _, digits := range []string{"5", "00", "17", "123", "9007199254740993", strings.Repeat("0", 40)} {
		for at := range len(digits) {
			for c := range 256 {
				s := digits[:at] + string([]byte{byte(c)}) + digits[at+1:]
				if c >= '0' && c <= '9' {
					judges(t, s, 2)
				} else {
					refuses(t, s, 2)
				}
			}
		}
	}
	for _, many := range []string{strings.Repeat("7", 300), strings.Repeat("0", 300), strings.Repeat("0", 299) + "1"} {
		for c := range 256 {
			if c >= '0' && c <= '9' {
				continue
			}
			for _, at := range []int{0, 1, 2, 150, 298, 299} {
				s := many[:at] + string([]byte{byte(c)}) + many[at+1:]
				refuses(t, s, 0)
				refuses(t, s, math.MinInt)
				refuses(t, s, math.MaxInt)
			}
		}
	}
}

func TestReadOfEachLength(t *testing.T) {
	for n := 1; n <= 300; n++ {
		for _, d := range []string{"1", "2", "5", "9"} {
			for _, x := range []int{-323, -322, -307, 0, 1, 17, n, 300, 308, 309} {
				judges(t, strings.Repeat(d, n), x)
			}
		}
		reads(t, strings.Repeat("0", n), 0, 0)
		reads(t, strings.Repeat("0", n-1)+"1", n, one)
		reads(t, "1"+strings.Repeat("0", n-1), 1, one)
		reads(t, strings.Repeat("9", n), n, math.Float64bits(nines(n)))
	}
	for _, n := range []int{301, 302, 310, 599, 600, 601, 1000, 1233, 1234, 1235, 5000, 1 << 16, 1 << 20} {
		for _, x := range []int{math.MinInt, -400, 0, 1, n, 400, math.MaxInt} {
			refuses(t, strings.Repeat("1", n), x)
			refuses(t, strings.Repeat("0", n), x)
			refuses(t, strings.Repeat("0", n-1)+"1", x)
			refuses(t, "1"+strings.Repeat("0", n-1), x)
			refuses(t, strings.Repeat("\x00", n), x)
		}
	}
}

// nines is 10^n less 1 as the standard library has it.
func nines(n int) float64 {
	f, err := strconv.ParseFloat(strings.Repeat("9", n), 64)
	if err != nil {
		panic(err)
	}
	return f
}

func TestReadOfNoughts(t *testing.T) {
	for _, n := range []int{1, 2, 3, 17, 299, 300} {
		for _, x := range exes {
			reads(t, strings.Repeat("0", n), x, 0)
		}
		for x := -1400; x <= 1400; x++ {
			reads(t, strings.Repeat("0", n), x, 0)
		}
	}
}

// P12.1: each x

func TestReadOfEachX(t *testing.T) {
	for x := -1010; x <= 1010; x++ {
		for _, digits := range []string{"1", "3", "9", "17976931348623157", "24703282292062327", "00005", strings.Repeat("0", 298) + "17", strings.Repeat("0", 299) + "1", strings.Repeat("0", 299) + "9", strings.Repeat("9", 300), "1" + strings.Repeat("0", 298) + "1", strings.Repeat("0", 150) + strings.Repeat("4", 150)} {
			judges(t, digits, x)
		}
	}
}

func TestReadOfFarX(t *testing.T) {
	for _, digits := range []string{"1", "9", "123", "00000001", "99999999999999999999", "1" + strings.Repeat("0", 299), strings.Repeat("9", 300), strings.Repeat("0", 299) + "1", strings.Repeat("0", 299) + "9", strings.Repeat("0", 250) + "1" + strings.Repeat("0", 49)} {
		for _, x := range exes {
			if x < 0 {
				reads(t, digits, x, 0)
			} else {
				refuses(t, digits, x)
			}
		}
	}
}

// Noughts behind the point move the number as far as x moves it back.
func TestReadAtTheBoundsOfX(t *testing.T) {
	for n := range 300 {
		noughts := strings.Repeat("0", n)
		reads(t, noughts+"1", n+1, one)
		reads(t, noughts+"1", n+309, 0x7FE1CCF385EBC8A0)
		refuses(t, noughts+"1", n+310)
		refuses(t, noughts+"2", n+309)
		reads(t, noughts+"3", n-323, 1)
		reads(t, noughts+"2", n-323, 0)
		reads(t, noughts+"9", n-324, 0)
		reads(t, noughts+"5", n-323, 1)
		if n <= 283 {
			reads(t, noughts+"17976931348623157", n+309, great)
			refuses(t, noughts+"17976931348623159", n+309)
			reads(t, noughts+"22250738585072014", n-307, leastFull)
		}
	}
}

// P12.1: which pattern

// isNearest holds the answer by its distance to the number against those of both neighbours.
func isNearest(t *testing.T, digits string, x int) {
	t.Helper()
	b, ok := near.Read(digits, x)
	n := exact(digits, x)
	if !ok {
		if b != 0 || n.Cmp(middle(great)) < 0 {
			t.Errorf("Read(%s, %d): %016x, %v, but there is a double", clipped(digits), x, b, ok)
		}
		return
	}
	if b > great {
		t.Errorf("Read(%s, %d): %016x is no pattern without a sign of a Zero or Finite one", clipped(digits), x, b)
		return
	}
	if up := n.Cmp(middle(b)); up > 0 || up == 0 && b%2 == 1 {
		t.Errorf("Read(%s, %d): %016x, but the one above is nearer", clipped(digits), x, b)
	}
	if b > 0 {
		if down := n.Cmp(middle(b - 1)); down < 0 || down == 0 && b%2 == 1 {
			t.Errorf("Read(%s, %d): %016x, but the one below is nearer", clipped(digits), x, b)
		}
	}
}

// goesUp holds that from b on the number is read as the pattern above b, or is refused where there is none.
func goesUp(t *testing.T, digits string, x int, b uint64) {
	t.Helper()
	if b == great {
		refuses(t, digits, x)
	} else {
		reads(t, digits, x, b+1)
	}
}

// aboutMiddle asks at, below and above the middle between b and the pattern above it, with n digits.
func aboutMiddle(t *testing.T, b uint64, n int) {
	t.Helper()
	digits, x := written(middle(b))
	below, above := beside(t, digits, n)
	reads(t, below, x, b)
	goesUp(t, above, x, b)
	if len(digits) > n {
		return
	}
	for _, s := range []string{digits, digits + strings.Repeat("0", n-len(digits))} {
		if b%2 == 0 {
			reads(t, s, x, b)
		} else {
			goesUp(t, s, x, b)
		}
	}
}

func TestReadAboutEachMiddle(t *testing.T) {
	for _, b := range patterns() {
		aboutMiddle(t, b, 300)
	}
}

// With as few digits as there are in the middle itself, and with one and with two more: but with 18, which lie closer to one another than doubles do.
func TestReadAboutMiddlesOfFewDigits(t *testing.T) {
	rnd := rand.New(rand.NewSource(121))
	found := [2]int{}
	for x := uint64(640); x < 2019; x++ {
		b := x<<52 | rnd.Uint64()>>12
		digits, _ := written(middle(b))
		from := max(len(digits), 18)
		for n := from; n <= min(from+2, 300); n++ {
			aboutMiddle(t, b, n)
			found[b%2]++
		}
	}
	if min(found[0], found[1]) < 1000 {
		t.Errorf("too few of one sort were tried: %v", found)
	}
}

// About the middle of whole numbers beside each other, all of which have few digits.
func TestReadAboutMiddlesOfWholeNumbers(t *testing.T) {
	rnd := rand.New(rand.NewSource(122))
	for bits := 54; bits <= 64; bits++ {
		for range 500 {
			unit := uint64(1) << (bits - 53)
			m := (1<<52 | rnd.Uint64()>>12) * unit
			b := math.Float64bits(float64(m))
			s := strconv.FormatUint(m+unit/2, 10)
			want := b + b%2
			reads(t, s, len(s), want)
			parses(t, s, want)
			parses(t, s+".0", want)
			parses(t, s+"."+strings.Repeat("0", 270)+"1", b+1)
			below := strconv.FormatUint(m+unit/2-1, 10)
			parses(t, below+"."+strings.Repeat("9", 270), b)
			reads(t, below, len(below), b)
		}
	}
}

// From nought on: the least patterns, whose middles have more digits than Read takes.
func TestReadAboutTheLeast(t *testing.T) {
	for b := range uint64(300) {
		aboutMiddle(t, b, 300)
	}
	digits, x := written(middle(0))
	if len(digits) != 752 || x != -323 || !strings.HasPrefix(digits, "24703282292062327208") {
		t.Fatalf("2^-1075 has %d digits, x %d: %s", len(digits), x, clipped(digits))
	}
	for n := 1; n <= 300; n++ {
		reads(t, digits[:n], -323, 0)
		reads(t, moved(t, digits[:n], 1), -323, 1)
	}
}

func TestReadAboutTheLeastOfXOne(t *testing.T) {
	for b := uint64(leastFull - 300); b < leastFull+300; b++ {
		aboutMiddle(t, b, 300)
	}
	for _, b := range []uint64{leastFull - 2, leastFull - 1, leastFull, leastFull + 1, 2*leastFull - 2, 2*leastFull - 1, 2 * leastFull} {
		digits, x := written(value(b))
		for n := 20; n <= 300; n++ {
			reads(t, digits[:n], x, b)
			reads(t, moved(t, digits[:n], 1), x, b)
			reads(t, moved(t, digits[:n], -1), x, b)
		}
		for n := 18; n <= 300; n++ {
			aboutMiddle(t, b, n)
		}
	}
}

// The bound itself, 2^1024 less 2^970, has 309 digits: so what Read takes is just below it or above it.
func TestReadAboutTheGreatest(t *testing.T) {
	for b := uint64(great - 300); b <= great; b++ {
		aboutMiddle(t, b, 300)
	}
	bound := new(big.Int).Lsh(big.NewInt(1), 1024)
	bound.Sub(bound, new(big.Int).Lsh(big.NewInt(1), 970))
	digits, x := written(middle(great))
	if digits != bound.String() || len(digits) != 309 || x != 309 {
		t.Fatalf("the bound has %d digits, x %d: %s", len(digits), x, clipped(digits))
	}
	for n := 17; n <= 300; n++ {
		reads(t, digits[:n], 309, great)
		refuses(t, moved(t, digits[:n], 1), 309)
		refuses(t, moved(t, digits[:n], 2), 309)
		if n < 300 {
			reads(t, digits[:n]+"0", 309, great)
			reads(t, "0"+digits[:n], 310, great)
			refuses(t, "0"+moved(t, digits[:n], 1), 310)
		}
	}
	whole, x := written(value(great))
	if len(whole) != 309 || x != 309 {
		t.Fatalf("the greatest one has %d digits, x %d", len(whole), x)
	}
	for n := 17; n <= 300; n++ {
		reads(t, whole[:n], 309, great)
		reads(t, moved(t, whole[:n], 1), 309, great)
	}
}

func TestReadOfPowersOfTwo(t *testing.T) {
	for power := -1074; power <= 1023; power++ {
		want := math.Float64bits(math.Ldexp(1, power))
		digits, x := written(value(want))
		if len(digits) <= 300 {
			reads(t, digits, x, want)
		}
		for _, n := range []int{18, 19, 40, 299, 300} {
			if n < len(digits) {
				reads(t, digits[:n], x, want)
				reads(t, moved(t, digits[:n], 1), x, want)
			}
		}
	}
	for _, power := range []int{-1080, -1077, -1076, -1075} {
		digits, x := written(new(big.Rat).SetFrac(big.NewInt(1), new(big.Int).Lsh(big.NewInt(1), uint(-power))))
		reads(t, digits[:300], x, 0)
	}
	for power := uint(1024); power < 1040; power++ {
		digits, x := written(new(big.Rat).SetInt(new(big.Int).Lsh(big.NewInt(1), power)))
		refuses(t, digits[:300], x)
	}
}

func TestReadOfPowersOfTen(t *testing.T) {
	for power := -345; power <= 330; power++ {
		for _, digits := range []string{"1", "10", "100000000000000000000", "0001"} {
			x := power + 1
			if digits == "0001" {
				x += 3
			}
			judges(t, digits, x)
			isNearest(t, digits, x)
		}
		judges(t, strings.Repeat("9", 300), power)
		judges(t, "1"+strings.Repeat("0", 298)+"1", power+1)
	}
	for power := range 23 {
		reads(t, "1", power+1, math.Float64bits(math.Pow10(power)))
	}
}

func TestReadOfWholeNumbers(t *testing.T) {
	rnd := rand.New(rand.NewSource(123))
	list := []uint64{}
	for bits := range 64 {
		for add := range uint64(5) {
			list = append(list, 1<<bits+add, 1<<bits-add, 3<<bits+add)
		}
	}
	for range 5000 {
		list = append(list, rnd.Uint64()>>rnd.Intn(64), 1<<53|rnd.Uint64()>>11, 1<<52|rnd.Uint64()>>12)
	}
	for v := range uint64(1200) {
		list = append(list, v)
	}
	for _, v := range list {
		s := strconv.FormatUint(v, 10)
		reads(t, s, len(s), math.Float64bits(float64(v)))
		parses(t, s, math.Float64bits(float64(v)))
	}
}

// Each pattern is read from 17 digits, and from all its digits if there are few of them.
func TestReadOfEachPattern(t *testing.T) {
	for _, b := range patterns() {
		s := strconv.FormatFloat(math.Float64frombits(b), 'e', 16, 64)
		front, exponent, _ := strings.Cut(s, "e")
		x, err := strconv.Atoi(exponent)
		if err != nil {
			t.Fatal(err)
		}
		reads(t, strings.Replace(front, ".", "", 1), x+1, b)
		parses(t, s, b)
		parses(t, "-"+s, sign|b)
		if digits, x := written(value(b)); len(digits) <= 300 && b != 0 {
			reads(t, digits, x, b)
		}
	}
}

func TestReadOfAny(t *testing.T) {
	rnd := rand.New(rand.NewSource(124))
	found := [3]int{}
	for range 20000 {
		digits, x := drawn(rnd, drawnLength(rnd)), rnd.Intn(720)-370
		judges(t, digits, x)
		switch b, ok := near.Read(digits, x); {
		case !ok:
			found[0]++
		case b == 0:
			found[1]++
		default:
			found[2]++
		}
		judges(t, digits, int(rnd.Uint64())>>rnd.Intn(64))
	}
	if min(found[0], found[1], found[2]) < 500 {
		t.Errorf("too few of one sort were tried: %v", found)
	}
	for range 4000 {
		isNearest(t, drawn(rnd, drawnLength(rnd)), rnd.Intn(680)-350)
	}
}

// Noughts behind the digits change nothing, nor do noughts ahead of them, with an x that is greater by their number.
func TestReadWithNoughts(t *testing.T) {
	rnd := rand.New(rand.NewSource(125))
	for round := range 3000 {
		digits, x := drawn(rnd, 1+rnd.Intn(40)), rnd.Intn(680)-350
		if round < len(edges) {
			digits, x = edges[round].digits, edges[round].x
		}
		b, ok := near.Read(digits, x)
		for range 4 {
			ahead := rnd.Intn(301 - len(digits))
			behind := rnd.Intn(301 - len(digits) - ahead)
			s := strings.Repeat("0", ahead) + digits + strings.Repeat("0", behind)
			if ok {
				reads(t, s, x+ahead, b)
			} else {
				refuses(t, s, x+ahead)
			}
		}
	}
}

// P12.2

func TestParseAtEdges(t *testing.T) {
	for _, c := range []struct {
		s    string
		want uint64
	}{
		{"0", 0}, {"-0", sign}, {"0.0", 0}, {"-0.0", sign}, {"0e0", 0}, {"-0e0", sign}, {"-0.0e99", sign}, {"0E-5", 0}, {"-0E+400", sign}, {"0e99999", 0}, {"-0.000e-99999", sign},
		{"1", one}, {"-1", sign | one}, {"1.0", one}, {"1e0", one}, {"1E0", one}, {"1e+0", one}, {"1e-0", one}, {"1e00", one}, {"10e-1", one}, {"10E-1", one}, {"0.1e1", one}, {"0.1E+1", one}, {"0.001e3", one}, {"1000E-03", one}, {"100.000e-2", one}, {"-0.00010e+00004", sign | one},
		{"0.1", 0x3FB999999999999A}, {"-0.1", 0xBFB999999999999A}, {"1e-1", 0x3FB999999999999A}, {"0.5", 0x3FE0000000000000}, {"0.25", 0x3FD0000000000000}, {"1.5", 0x3FF8000000000000}, {"-2.5", 0xC004000000000000}, {"3", 0x4008000000000000}, {"12.5", 0x4029000000000000}, {"-12.5e1", 0xC05F400000000000}, {"125E-1", 0x4029000000000000}, {"123.456", 0x405EDD2F1A9FBE77}, {"3.141592653589793", 0x400921FB54442D18}, {"1e21", 0x444B1AE4D6E2EF50}, {"1E+21", 0x444B1AE4D6E2EF50}, {"6.02214076e23", 0x44DFE185CA57C517}, {"-1.602176634e-19", 0xBC07A4DA290C1653},
		{"9007199254740993", 0x4340000000000000}, {"9007199254740993.0", 0x4340000000000000}, {"9007199254740993.00000000000000000001", 0x4340000000000001}, {"-9007199254740995", 0xC340000000000002}, {"9223372036854775807", 0x43E0000000000000}, {"-9223372036854775808", 0xC3E0000000000000}, {"18446744073709551616", 0x43F0000000000000},
		{"5e-324", 1}, {"-5e-324", sign | 1}, {"4.9e-324", 1}, {"2.5e-324", 1}, {"2.4703282292062327e-324", 0}, {"-2.4703282292062327e-324", sign}, {"2.4703282292062328e-324", 1}, {"-2.4703282292062328e-324", sign | 1}, {"2e-324", 0}, {"-2e-324", sign}, {"1e-324", 0}, {"-1E-400", sign}, {"1e-400", 0}, {"-0.00001e-400", sign},
		{"2.2250738585072011e-308", leastFull - 1}, {"2.2250738585072012e-308", leastFull}, {"2.2250738585072014e-308", leastFull}, {"-2.2250738585072014E-308", sign | leastFull},
		{"1.7976931348623157e308", great}, {"-1.7976931348623157e308", sign | great}, {"1.7976931348623158e+308", great}, {"-1.7976931348623158E308", sign | great}, {"17976931348623157e292", great}, {"0.0017976931348623157e311", great}, {"1e308", 0x7FE1CCF385EBC8A0}, {"1.0E+308", 0x7FE1CCF385EBC8A0},
	} {
		parses(t, c.s, c.want)
		asks(t, c.s)
	}
}

func TestParseOfNumbersTooGreat(t *testing.T) {
	for _, s := range []string{"1e309", "1e310", "1E400", "1e+400", "2e308", "1.8e308", "1.7976931348623159e308", "17976931348623159e292", "1.797693134862315808e308", "10e308", "0.1e310", "0.01e311", "1e999", "1e1000", "1e1001", "1e99999999999999999999999", "123.456e+12345678901234567890", "9" + strings.Repeat("0", 299) + "e9", "9" + strings.Repeat("0", 295) + "e14", "0." + strings.Repeat("0", 280) + "1e591", "0." + strings.Repeat("0", 280) + "9e599"} {
		fails(t, s, api.ErrNum)
		fails(t, "-"+s, api.ErrNum)
	}
}

func TestParseOfNoNumbers(t *testing.T) {
	for _, s := range []string{
		"", "-", "+", ".", "e", "E", "--", "-.", "-e", ".e", "e-", "..", "ee", "+1", "+0", "--1", "-+1", "+-1", "1-", "1+", "- 1", "00", "01", "-00", "-01", "00.5", "01e5", "1.", "-1.", "0.", ".1", "-.1", "1.e5", ".5e5", "1..5", "1.5.5", "1.-5", "1e", "1E", "1e+", "1e-", "1.5e", "-1e", "1e5.", "1e5.5", "1e5e5", "1ee5", "1e--5", "1e++5", "1e+-5", "1e 5", "1 e5", "1,5", "1_0", "1e1_0", "0x1", "0x1p4", "0X1P-2", "0b1", "0o7", "1f", "1d", "1L",
		"NaN", "nan", "Inf", "inf", "-Inf", "+Inf", "Infinity", "-Infinity", "infinity", "null", "true", "a", "x1", "1x", "1.5x", "1e5x", " 1", "1 ", "\t1", "1\n", "\n1", "1\x00", "\x001", "\x00", "\xff", "1\xff", "1.\xff", "1e\xff", "\xb11", "١", "1.١", "１", "\"1\"", "'1'", "[1]", "1;", "1/2", "1:2", "½",
	} {
		fails(t, s, api.ErrForm)
		asks(t, s)
	}
}

// Each number that is put together from its parts, and such as miss a part.
func TestParseOfEachJoinOfParts(t *testing.T) {
	for _, minus := range []string{"", "-"} {
		for _, ones := range []string{"0", "1", "5", "10", "9007199254740993", "179769313486231570000", "100000000000000000000000000000"} {
			for _, behind := range []string{"", ".0", ".5", ".05", ".50", ".000", ".00000000000000000000000001", ".99999999999999999999999999"} {
				for _, exponent := range []string{"", "e0", "E0", "e+0", "E-0", "e00", "e1", "E1", "e+1", "E+1", "e-1", "E-1", "e05", "E-05", "e+005", "e22", "E-22", "e288", "e+300", "E308", "e309", "E-290", "e-307", "e-322", "E-330", "e-345", "e400", "E-400", "e-99999999999999999999", "E+99999999999999999999"} {
					s := minus + ones + behind + exponent
					if !number.MatchString(s) {
						t.Fatalf("%s is no number", s)
					}
					asks(t, s)
				}
				asks(t, minus+"0"+ones+behind)
				asks(t, "+"+minus+ones+behind)
				asks(t, minus+ones+"."+behind)
				asks(t, minus+ones+behind+"e")
				asks(t, minus+ones+behind+"e+-1")
				asks(t, minus+behind)
			}
		}
	}
}

// All texts of up to five of the bytes of a number, and of one stranger.
func TestParseOfEachShortText(t *testing.T) {
	texts := []string{""}
	for range 5 {
		var longer []string
		for _, s := range texts {
			for _, c := range "-+.eE019x" {
				longer = append(longer, s+string(c))
			}
		}
		for _, s := range longer {
			asks(t, s)
		}
		texts = longer
	}
}

func TestParseOfEachByte(t *testing.T) {
	for _, s := range []string{"0", "-1", "1.5", "-10.25E+07", "5e-324", "123456789012345678901234567890"} {
		for at := range len(s) {
			for c := range 256 {
				asks(t, s[:at]+string([]byte{byte(c)})+s[at+1:])
				asks(t, s[:at]+string([]byte{byte(c)})+s[at:])
			}
		}
	}
}

func TestParseOfLongExponents(t *testing.T) {
	for _, n := range []int{1, 2, 3, 10, 20, 100, 290} {
		noughts := strings.Repeat("0", n)
		nines := strings.Repeat("9", n)
		for _, e := range []string{"e", "E"} {
			parses(t, "1"+e+noughts, one)
			parses(t, "1"+e+"+"+noughts, one)
			parses(t, "1"+e+"-"+noughts, one)
			parses(t, "-1"+e+"-"+noughts, sign|one)
			parses(t, "1"+e+noughts+"21", 0x444B1AE4D6E2EF50)
			parses(t, "1"+e+"+"+noughts+"21", 0x444B1AE4D6E2EF50)
			parses(t, "-1000"+e+"-"+noughts+"3", sign|one)
			parses(t, "1"+e+noughts+"308", 0x7FE1CCF385EBC8A0)
			fails(t, "1"+e+noughts+"309", api.ErrNum)
			parses(t, "5"+e+"-"+noughts+"324", 1)
			parses(t, "2"+e+"-"+noughts+"324", 0)
			parses(t, "-2"+e+"-"+noughts+"324", sign)
			fails(t, "1"+e+noughts+"10000", api.ErrNum)
			fails(t, "-1"+e+"+1000"+noughts, api.ErrNum)
			parses(t, "1"+e+"-1000"+noughts, 0)
			parses(t, "-1"+e+"-1000"+noughts, sign)
			parses(t, "0"+e+nines, 0)
			parses(t, "-0"+e+nines, sign)
			parses(t, "0.0"+e+"+"+nines, 0)
			parses(t, "-0.00"+e+"-"+nines, sign)
			fails(t, "1"+e+"999"+nines, api.ErrNum)
			fails(t, "0.001"+e+"999"+nines, api.ErrNum)
			parses(t, "1"+e+"-999"+nines, 0)
			parses(t, "-99.9"+e+"-999"+nines, sign)
		}
	}
}

// Exponents about what 31, 32, 63 and 64 bits hold, and about multiples of it, where one that wraps round would be near 0.
func TestParseOfWideExponents(t *testing.T) {
	for _, bits := range []uint{15, 16, 31, 32, 33, 62, 63, 64, 65, 128, 256, 512} {
		for add := int64(-330); add <= 330; add++ {
			v := new(big.Int).Lsh(big.NewInt(1), bits)
			e := v.Add(v, big.NewInt(add)).String()
			fails(t, "1e"+e, api.ErrNum)
			fails(t, "-0.1E+"+e, api.ErrNum)
			parses(t, "1E-"+e, 0)
			parses(t, "-10.0e-"+e, sign)
			parses(t, "0e"+e, 0)
			parses(t, "-0e-"+e, sign)
		}
	}
}

// Digits on the one side of the point, and an exponent that brings them back from the other.
func TestParseOfFarDigits(t *testing.T) {
	for n := range 290 {
		noughts := strings.Repeat("0", n)
		for _, d := range []int{-325, -324, -323, -308, -307, -1, 0, 1, 307, 308, 309} {
			asks(t, "1"+noughts+"e"+strconv.Itoa(d-n))
			asks(t, "-5"+noughts+"e"+strconv.Itoa(d-n))
			asks(t, "0."+noughts+"1e"+strconv.Itoa(d+n))
			asks(t, "-0."+noughts+"9E"+strconv.Itoa(d+n))
		}
	}
	parses(t, "0."+strings.Repeat("0", 289)+"1e598", 0x7FE1CCF385EBC8A0)
	fails(t, "0."+strings.Repeat("0", 289)+"1e599", api.ErrNum)
	parses(t, "5"+strings.Repeat("0", 293)+"e-617", 1)
	parses(t, "2"+strings.Repeat("0", 293)+"e-617", 0)
	parses(t, "1"+strings.Repeat("0", 293)+"e-293", one)
}

// P12.2: lengths, and which error is told

func TestParseOfLongTexts(t *testing.T) {
	for _, n := range []int{298, 299, 300, 301, 302, 303, 600, 1235, 5000, 1 << 20} {
		for _, s := range []string{
			"1" + strings.Repeat("0", n-1), strings.Repeat("7", n), "-" + strings.Repeat("3", n-1), "0." + strings.Repeat("0", n-2), "-0." + strings.Repeat("0", n-3), "0." + strings.Repeat("0", n-3) + "1", "0." + strings.Repeat("9", n-2), strings.Repeat("7", n/2) + "." + strings.Repeat("3", n-n/2-1), "-" + strings.Repeat("7", n/2) + "." + strings.Repeat("3", n-n/2-2), "0e" + strings.Repeat("9", n-2), "1e" + strings.Repeat("0", n-2), "-1E+" + strings.Repeat("0", n-4), "1e-" + strings.Repeat("9", n-3), "1.5e-" + strings.Repeat("0", n-6) + "3", strings.Repeat("9", n-4) + "e-10", "9007199254740993." + strings.Repeat("0", n-18) + "1", "1e" + strings.Repeat("9", n-2),
		} {
			if len(s) != n || !number.MatchString(s) {
				t.Fatalf("%s has not %d bytes, or is no number", clipped(s), n)
			}
			if n > 300 {
				fails(t, s, api.ErrNum)
			}
			asks(t, s)
		}
	}
}

// R6: a text that is no number is told as that, whatever else is wrong with it.
func TestParseOfLongTextsThatAreNoNumbers(t *testing.T) {
	for _, n := range []int{299, 300, 301, 302, 600, 1 << 20} {
		for _, s := range []string{
			strings.Repeat("0", n), "0" + strings.Repeat("1", n-1), strings.Repeat("1", n-1) + ".", strings.Repeat("1", n-1) + "e", "+" + strings.Repeat("1", n-1), strings.Repeat("1", n-1) + "x", strings.Repeat("1", n-1) + " ", " " + strings.Repeat("1", n-1), "-" + strings.Repeat("0", n-1), "1e" + strings.Repeat("9", n-3) + "-", "1e" + strings.Repeat("9", n-3) + "\x00", strings.Repeat("x", n), strings.Repeat("-", n), strings.Repeat(".", n), strings.Repeat("\xff", n), strings.Repeat(" ", n), "." + strings.Repeat("1", n-1), "1" + strings.Repeat(".", n-1),
		} {
			if len(s) != n {
				t.Fatalf("%s has not %d bytes", clipped(s), n)
			}
			fails(t, s, api.ErrForm)
		}
	}
	fails(t, "1e400x", api.ErrForm)
	fails(t, "01e400", api.ErrForm)
	fails(t, "-1e999.", api.ErrForm)
}

// Parse goes by Read: of the digits of both sides of the point, and x.
func TestParseGoesByRead(t *testing.T) {
	rnd := rand.New(rand.NewSource(126))
	for range 10000 {
		ones, behind := drawn(rnd, drawnLength(rnd)/2+1), drawn(rnd, drawnLength(rnd)/4+1)
		e := rnd.Intn(700) - 360
		if ones[0] == '0' {
			ones = "0"
		}
		s := ones + "." + behind + "e" + strconv.Itoa(e)
		if b, ok := near.Read(ones+behind, len(ones)+e); ok {
			parses(t, s, b)
			parses(t, "-"+s, sign|b)
		} else {
			fails(t, s, api.ErrNum)
			fails(t, "-"+s, api.ErrNum)
		}
		asks(t, s)
	}
}

func TestParseOfAny(t *testing.T) {
	rnd := rand.New(rand.NewSource(127))
	for range 10000 {
		f := math.Float64frombits(rnd.Uint64())
		for _, form := range []byte("efgEG") {
			if s := strconv.FormatFloat(f, form, rnd.Intn(25)-1, 64); len(s) <= 330 {
				asks(t, s)
			}
		}
		b := make([]byte, rnd.Intn(12))
		for i := range b {
			b[i] = "0123456789-+.eE"[rnd.Intn(15)]
		}
		asks(t, string(b))
		rnd.Read(b)
		asks(t, string(b))
	}
}

// P12.3

// goes is a number, and what became of it.
type goes struct {
	n    *big.Rat
	bits uint64
	ok   bool
}

// neverGoDown sorts numbers as such, and holds that their patterns are sorted then, and that beyond one that is refused all are.
func neverGoDown(t *testing.T, list []goes) {
	t.Helper()
	slices.SortFunc(list, func(a, b goes) int { return a.n.Cmp(b.n) })
	for i := 1; i < len(list); i++ {
		a, b := list[i-1], list[i]
		if b.ok && (!a.ok || a.bits > b.bits) {
			t.Errorf("%s: %016x, %v, but the greater %s: %016x, %v", a.n.FloatString(20), a.bits, a.ok, b.n.FloatString(20), b.bits, b.ok)
		}
		if a.n.Cmp(b.n) == 0 && (a.ok != b.ok || a.bits != b.bits) {
			t.Errorf("%s: %016x, %v, and also %016x, %v", a.n.FloatString(20), a.bits, a.ok, b.bits, b.ok)
		}
	}
}

func read(digits string, x int) goes {
	b, ok := near.Read(digits, x)
	return goes{exact(digits, x), b, ok}
}

func TestGreaterNumbers(t *testing.T) {
	rnd := rand.New(rand.NewSource(128))
	var list []goes
	for range 4000 {
		list = append(list, read(drawn(rnd, drawnLength(rnd)), rnd.Intn(720)-370))
	}
	for _, c := range edges {
		list = append(list, read(c.digits, c.x), read("0"+c.digits+"0", c.x+1), read(c.digits+"1", c.x))
	}
	for _, c := range tooGreat {
		if c.x < 1000 {
			list = append(list, read(c.digits, c.x))
		}
	}
	neverGoDown(t, list)
}

// Numbers close to one another, about one pattern and its neighbours.
func TestGreaterNumbersBesideEachOther(t *testing.T) {
	rnd := rand.New(rand.NewSource(129))
	for _, b := range []uint64{1, 2, leastFull - 1, leastFull, leastFull + 1, 2 * leastFull, 0x3FB999999999999A, one - 1, one, one + 1, 0x4340000000000000, 0x444B1AE4D6E2EF50, great - 1, great} {
		var list []goes
		for _, r := range []*big.Rat{middle(b - 1), value(b), middle(b)} {
			digits, x := written(r)
			for _, n := range []int{15, 16, 17, 18, 19, 20, 50, 299, 300} {
				cut := "0" + (digits + strings.Repeat("0", 300))[:n-1]
				for add := int64(-10); add <= 10; add++ {
					list = append(list, read(moved(t, cut, add), x+1))
				}
				list = append(list, read(moved(t, cut, rnd.Int63n(1000)-500), x+1))
			}
		}
		neverGoDown(t, list)
	}
}

func TestGreaterDigits(t *testing.T) {
	for _, x := range []int{-323, -322, -321, -308, -307, -1, 0, 1, 16, 17, 300, 308, 309} {
		var list []goes
		for v := range 1000 {
			s := fmt.Sprintf("%03d", v)
			b, ok := near.Read(s, x)
			list = append(list, goes{big.NewRat(int64(v), 1), b, ok})
		}
		neverGoDown(t, list)
	}
}

func TestGreaterX(t *testing.T) {
	for _, digits := range []string{"0", "1", "9", "123456789", strings.Repeat("9", 300), strings.Repeat("0", 299) + "1"} {
		xs := slices.Clone(exes)
		for x := -720; x <= 720; x++ {
			xs = append(xs, x)
		}
		slices.SortFunc(xs, cmp.Compare)
		last, some := uint64(0), true
		for _, x := range xs {
			b, ok := near.Read(digits, x)
			if ok && (!some || b < last) {
				t.Errorf("Read(%s, %d): %016x, %v, but at a smaller x %016x, %v", clipped(digits), x, b, ok, last, some)
			}
			last, some = b, ok
		}
	}
}

// R1, R5: no call panics, and each one answers as it did before, whatever was asked between.
func TestCallsOfAny(t *testing.T) {
	rnd := rand.New(rand.NewSource(130))
	for range 5000 {
		any := make([]byte, rnd.Intn(400))
		rnd.Read(any)
		digits, s, x := drawn(rnd, drawnLength(rnd)), string(any), int(rnd.Uint64())>>rnd.Intn(64)
		first := answers(digits, x) + answers(s, x)
		answers(drawn(rnd, drawnLength(rnd)), rnd.Intn(700)-350)
		if again := answers(digits, x) + answers(s, x); again != first {
			t.Errorf("%s, %s, %d: %s, and then %s", clipped(digits), clipped(s), x, first, again)
		}
	}
	for _, x := range append([]int{-324, -323, 0, 1, 309, 310}, exes...) {
		for _, s := range []string{"", "x", "0", "1", strings.Repeat("1", 300), strings.Repeat("1", 301), strings.Repeat("\xff", 1<<20), strings.Repeat("9", 1<<20), strings.Repeat("0", 299) + "1"} {
			answers(s, x)
		}
	}
	refuses(t, "", 0)
	reads(t, "1", 1, one)
	fails(t, "1e999", api.ErrNum)
	parses(t, "-0", sign)
}

// answers are those of both calls, as a text.
func answers(s string, x int) string {
	b, ok := near.Read(s, x)
	parsed, err := near.Parse(s)
	return fmt.Sprint(b, ok, parsed, err)
}
