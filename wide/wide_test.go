package wide_test

import (
	"fmt"
	"math"
	"math/big"
	"math/rand"
	"regexp"
	"strings"
	"testing"

	"propylon/api"
	"propylon/wide"
)

// top is the greatest number of 64 bits.
const top = math.MaxUint64

// parts are numbers of 64 bits at which a carry, a sign, a digit or half a word could go wrong.
var parts = []uint64{
	0, 1, 2, 3, 9, 10, 11, 1<<31 - 1, 1 << 31, 1<<32 - 1, 1 << 32, 1<<32 + 1, 1e18, 1e19 - 1, 1e19, 1e19 + 1,
	0x5555555555555555, 0xAAAAAAAAAAAAAAAA, 1<<63 - 1, 1 << 63, 1<<63 + 1, top - 9, top - 1, top,
}

// bound is 2^128, which is no Wide any more.
var bound = new(big.Int).Lsh(big.NewInt(1), 128)

// decimal says by an expression which texts look like a Text; their numbers may be too great.
var decimal = regexp.MustCompile(`\A(0|[1-9][0-9]*)\z`)

// texts are numbers with their digits, written out.
var texts = []struct {
	a api.Wide
	s string
}{
	{api.Wide{}, "0"}, {api.Wide{Low: 1}, "1"}, {api.Wide{Low: 5}, "5"}, {api.Wide{Low: 8}, "8"}, {api.Wide{Low: 9}, "9"},
	{api.Wide{Low: 10}, "10"}, {api.Wide{Low: 11}, "11"}, {api.Wide{Low: 99}, "99"}, {api.Wide{Low: 100}, "100"}, {api.Wide{Low: 101}, "101"}, {api.Wide{Low: 1234567890}, "1234567890"},
	{api.Wide{Low: 999999999999999999}, "999999999999999999"}, {api.Wide{Low: 1000000000000000000}, "1000000000000000000"}, {api.Wide{Low: 1000000000000000001}, "1000000000000000001"},
	{api.Wide{Low: 1<<63 - 1}, "9223372036854775807"}, {api.Wide{Low: 1 << 63}, "9223372036854775808"}, {api.Wide{Low: 9999999999999999999}, "9999999999999999999"},
	{api.Wide{Low: 10000000000000000000}, "10000000000000000000"}, {api.Wide{Low: 10000000000000000001}, "10000000000000000001"}, {api.Wide{Low: 10203040506070809000}, "10203040506070809000"},
	{api.Wide{Low: top - 1}, "18446744073709551614"}, {api.Wide{Low: top}, "18446744073709551615"},
	{api.Wide{High: 1}, "18446744073709551616"}, {api.Wide{High: 1, Low: 1}, "18446744073709551617"}, {api.Wide{High: 1, Low: top}, "36893488147419103231"}, {api.Wide{High: 2}, "36893488147419103232"},
	{api.Wide{High: 5, Low: 7766279631452241919}, "99999999999999999999"}, {api.Wide{High: 5, Low: 7766279631452241920}, "100000000000000000000"},
	{api.Wide{High: 542101086242752217, Low: 68739955140067327}, "9999999999999999999999999999999999999"}, {api.Wide{High: 542101086242752217, Low: 68739955140067328}, "10000000000000000000000000000000000000"},
	{api.Wide{High: 5421010862427522170, Low: 687399551400673279}, "99999999999999999999999999999999999999"}, {api.Wide{High: 5421010862427522170, Low: 687399551400673280}, "100000000000000000000000000000000000000"}, {api.Wide{High: 5421010862427522170, Low: 687399551400673281}, "100000000000000000000000000000000000001"},
	{api.Wide{High: 1<<63 - 1, Low: top}, "170141183460469231731687303715884105727"}, {api.Wide{High: 1 << 63}, "170141183460469231731687303715884105728"},
	{api.Wide{High: top}, "340282366920938463444927863358058659840"}, {api.Wide{High: top, Low: top - 6}, "340282366920938463463374607431768211449"}, {api.Wide{High: top, Low: top - 5}, "340282366920938463463374607431768211450"},
	{api.Wide{High: top, Low: top - 1}, "340282366920938463463374607431768211454"}, {api.Wide{High: top, Low: top}, "340282366920938463463374607431768211455"},
}

// noTexts are the digits of no Wide: none, with noughts or signs ahead, too great, written otherwise, or with bytes that are no digits.
var noTexts = []string{
	"", "00", "01", "000", "007", "010", "-0", "-1", "+0", "+1", "--1", "-", "+", "1-", "1+", "1e3", "1E3", "1.", ".1", "1.0", "0.0", "1,000", "1_0", "0_0", "_1", "1_", "0x0", "0x1", "0X1", "0b1", "0o7", "x", "a", "A", "1a", "a1", "f", "nan", "inf", "NaN", "Infinity",
	" ", " 0", "0 ", " 1", "1 ", "1 2", "\t1", "1\t", "1\n", "\n1", "1\r\n", "\n", "1\v", "/", ":", "1/", "/1", "1:", ":1", "1/1", "1:1", ";", ".", "'1'", `"1"`, "\x00", "0\x00", "\x000", "1\x00", "1\x002", "\x01", "\x09", "\x10", "\x7f",
	"\x80", "\xb0", "\xb1", "1\xb9", "\xaf", "\xba", "\xff", "1\xff", "\xff1", "\xc2\xb9", "\u0660", "\u0661", "1\u0662", "\u0967", "\uff10", "\uff11", "\u00b2", "\u2460", "\U0001D7CE", "\xef\xbb\xbf1", "\u00a01", "1\u00a0", "\u22121",
	"00000000000000000000", "018446744073709551615", "0340282366920938463463374607431768211455", "000000000000000000000000000000000000001", "034028236692093846346337460743176821145", "-340282366920938463463374607431768211455", "+340282366920938463463374607431768211455", "-340282366920938463463374607431768211456", "34028236692093846346337460743176821145 ", "34028236692093846346337460743176821145a", "a40282366920938463463374607431768211455", "3402823669209384634 3374607431768211455",
	"340282366920938463463374607431768211456", "340282366920938463463374607431768211457", "340282366920938463463374607431768211459", "340282366920938463463374607431768211460", "340282366920938463463374607431768211466", "340282366920938463463374607431768211500", "340282366920938463464000000000000000000", "350000000000000000000000000000000000000", "400000000000000000000000000000000000000", "680564733841876926926749214863536422912", "680564733841876926926749214863536422913", "999999999999999999999999999999999999999",
	"1000000000000000000000000000000000000000", "3402823669209384634633746074317682114550", "3402823669209384634633746074317682114560", "3402823669209384634633746074317682114561", "10000000000000000000000000000000000000000", "115792089237316195423570985008687907853269984665640564039457584007913129639936", "115792089237316195423570985008687907853269984665640564039457584007913129639937",
	strings.Repeat("9", 40), strings.Repeat("1", 40), strings.Repeat("9", 1000), "1" + strings.Repeat("0", 64), "1" + strings.Repeat("0", 1<<16), strings.Repeat("0", 39), strings.Repeat("0", 40), strings.Repeat("0", 1<<16), strings.Repeat("0", 1<<16) + "1", strings.Repeat("7", 1<<20), strings.Repeat("-", 1<<16), strings.Repeat("\xff", 1<<16), strings.Repeat(" ", 39),
}

// wides are all numbers of two of the parts.
func wides() []api.Wide {
	var all []api.Wide
	for _, high := range parts {
		for _, low := range parts {
			all = append(all, api.Wide{High: high, Low: low})
		}
	}
	return all
}

// drawn is a number of any length, half of the time of many equal bits.
func drawn(rnd *rand.Rand) api.Wide {
	a := api.Wide{High: rnd.Uint64(), Low: rnd.Uint64()}
	if rnd.Intn(2) == 0 {
		a.High |= -uint64(rnd.Intn(2)) << rnd.Intn(64)
		a.Low |= -uint64(rnd.Intn(2)) << rnd.Intn(64)
	}
	switch rnd.Intn(4) {
	case 0:
		a.High >>= rnd.Intn(65)
	case 1:
		a.High, a.Low = 0, a.Low>>rnd.Intn(65)
	case 2:
		a.Low >>= rnd.Intn(65)
	}
	return a
}

func great(v uint64) *big.Int {
	return new(big.Int).SetUint64(v)
}

// number is a Wide as a number without a bound.
func number(a api.Wide) *big.Int {
	n := new(big.Int).Lsh(great(a.High), 64)
	return n.Add(n, great(a.Low))
}

// folded is a number modulo 2^128.
func folded(n *big.Int) api.Wide {
	n = new(big.Int).Mod(n, bound)
	return api.Wide{High: new(big.Int).Rsh(n, 64).Uint64(), Low: new(big.Int).And(n, great(top)).Uint64()}
}

// cut keeps what a test tells short.
func cut(s string) string {
	if len(s) > 120 {
		return s[:120] + fmt.Sprintf(".. (%d bytes)", len(s))
	}
	return s
}

func one(c int) string {
	return string([]byte{byte(c)})
}

func compares(t *testing.T, a, b api.Wide, want int) {
	t.Helper()
	if c := wide.Cmp(a, b); c != want {
		t.Errorf("Cmp(%v, %v): %d, not %d", a, b, c, want)
	}
}

func adds(t *testing.T, a, b, want api.Wide, beyond bool) {
	t.Helper()
	if s, over := wide.Add(a, b); s != want || over != beyond {
		t.Errorf("Add(%v, %v): %v, %v, not %v, %v", a, b, s, over, want, beyond)
	}
}

func subtracts(t *testing.T, a, b, want api.Wide, beyond bool) {
	t.Helper()
	if d, over := wide.Sub(a, b); d != want || over != beyond {
		t.Errorf("Sub(%v, %v): %v, %v, not %v, %v", a, b, d, over, want, beyond)
	}
}

func multiplies(t *testing.T, a, b uint64, want api.Wide) {
	t.Helper()
	if p := wide.Mul(a, b); p != want {
		t.Errorf("Mul(%d, %d): %v, not %v", a, b, p, want)
	}
}

func repeats(t *testing.T, a api.Wide, b uint64, want api.Wide, beyond uint64) {
	t.Helper()
	if p, over := wide.Times(a, b); p != want || over != beyond {
		t.Errorf("Times(%v, %d): %v, %d, not %v, %d", a, b, p, over, want, beyond)
	}
}

func divides(t *testing.T, a api.Wide, b uint64, want api.Wide, left uint64) {
	t.Helper()
	if q, r, ok := wide.Div(a, b); q != want || r != left || !ok {
		t.Errorf("Div(%v, %d): %v, %d, %v, not %v, %d, true", a, b, q, r, ok, want, left)
	}
}

func goesUp(t *testing.T, a api.Wide, n int, want api.Wide) {
	t.Helper()
	if u := wide.Up(a, n); u != want {
		t.Errorf("Up(%v, %d): %v, not %v", a, n, u, want)
	}
}

func goesDown(t *testing.T, a api.Wide, n int, want api.Wide) {
	t.Helper()
	if d := wide.Down(a, n); d != want {
		t.Errorf("Down(%v, %d): %v, not %v", a, n, d, want)
	}
}

func writes(t *testing.T, a api.Wide, want string) {
	t.Helper()
	if s := wide.Text(a); s != want {
		t.Errorf("Text(%v): %q, not %q", a, cut(s), want)
	}
}

func reads(t *testing.T, s string, want api.Wide) {
	t.Helper()
	if a, ok := wide.Parse(s); a != want || !ok {
		t.Errorf("Parse(%q): %v, %v, not %v, true", cut(s), a, ok, want)
	}
}

// refuses also holds R2: with false there is a zero Wide.
func refuses(t *testing.T, s string) {
	t.Helper()
	if a, ok := wide.Parse(s); a != (api.Wide{}) || ok {
		t.Errorf("Parse(%q): %v, %v, not zero, false", cut(s), a, ok)
	}
}

// judges reads s or refuses it, as its shape and its number without a bound say; what is read must have just the text s.
func judges(t *testing.T, s string) {
	t.Helper()
	if !decimal.MatchString(s) {
		refuses(t, s)
		return
	}
	n, _ := new(big.Int).SetString(s, 10)
	if n.Cmp(bound) >= 0 {
		refuses(t, s)
		return
	}
	reads(t, s, folded(n))
	writes(t, folded(n), s)
}

// P6.1: Of

func TestOf(t *testing.T) {
	for _, v := range parts {
		if a := wide.Of(v); a.High != 0 || a.Low != v {
			t.Errorf("Of(%d): %v", v, a)
		}
	}
	for bit := range 64 {
		for _, v := range []uint64{1 << bit, 1<<bit - 1, uint64(top) << bit} {
			if a := wide.Of(v); a.High != 0 || a.Low != v {
				t.Errorf("Of(%d): %v", v, a)
			}
		}
	}
}

// P6.1: Cmp

func TestCmpAtEdges(t *testing.T) {
	for _, c := range []struct {
		a, b api.Wide
		want int
	}{
		{api.Wide{}, api.Wide{}, 0}, {api.Wide{High: top, Low: top}, api.Wide{High: top, Low: top}, 0}, {api.Wide{High: 3, Low: 4}, api.Wide{High: 3, Low: 4}, 0},
		{api.Wide{}, api.Wide{Low: 1}, -1}, {api.Wide{}, api.Wide{Low: top}, -1}, {api.Wide{}, api.Wide{High: 1}, -1}, {api.Wide{}, api.Wide{High: top, Low: top}, -1},
		{api.Wide{Low: top - 1}, api.Wide{Low: top}, -1}, {api.Wide{Low: 1<<63 - 1}, api.Wide{Low: 1 << 63}, -1}, {api.Wide{High: 7, Low: 1<<63 - 1}, api.Wide{High: 7, Low: 1 << 63}, -1}, {api.Wide{High: top, Low: 5}, api.Wide{High: top, Low: top}, -1},
		{api.Wide{Low: top}, api.Wide{High: 1}, -1}, {api.Wide{High: 1}, api.Wide{High: 1, Low: 1}, -1}, {api.Wide{High: 1, Low: 9}, api.Wide{High: 2, Low: 9}, -1}, {api.Wide{High: 1, Low: 9}, api.Wide{High: 2, Low: 3}, -1}, {api.Wide{High: 1, Low: top}, api.Wide{High: 2}, -1},
		{api.Wide{High: 1<<63 - 1, Low: top}, api.Wide{High: 1 << 63}, -1}, {api.Wide{High: 1 << 63}, api.Wide{High: top}, -1}, {api.Wide{High: top - 1, Low: top}, api.Wide{High: top}, -1}, {api.Wide{High: top, Low: top - 1}, api.Wide{High: top, Low: top}, -1},
	} {
		compares(t, c.a, c.b, c.want)
		compares(t, c.b, c.a, -c.want)
	}
}

func TestCmpOfEachTwo(t *testing.T) {
	for _, a := range wides() {
		for _, b := range wides() {
			compares(t, a, b, number(a).Cmp(number(b)))
		}
	}
}

// P6.1: Add

func TestAddAtEdges(t *testing.T) {
	for _, c := range []struct {
		a, b, sum api.Wide
		beyond    bool
	}{
		{api.Wide{}, api.Wide{}, api.Wide{}, false}, {api.Wide{Low: 2}, api.Wide{Low: 3}, api.Wide{Low: 5}, false}, {api.Wide{High: 1, Low: 2}, api.Wide{High: 30, Low: 40}, api.Wide{High: 31, Low: 42}, false},
		{api.Wide{Low: top}, api.Wide{}, api.Wide{Low: top}, false}, {api.Wide{Low: top}, api.Wide{Low: 1}, api.Wide{High: 1}, false}, {api.Wide{Low: top}, api.Wide{Low: top}, api.Wide{High: 1, Low: top - 1}, false}, {api.Wide{High: 4, Low: 1 << 63}, api.Wide{High: 5, Low: 1 << 63}, api.Wide{High: 10}, false},
		{api.Wide{High: top - 1, Low: top}, api.Wide{Low: 1}, api.Wide{High: top}, false}, {api.Wide{High: top, Low: top - 1}, api.Wide{Low: 1}, api.Wide{High: top, Low: top}, false}, {api.Wide{High: 1<<63 - 1, Low: top}, api.Wide{High: 1 << 63}, api.Wide{High: top, Low: top}, false}, {api.Wide{High: top, Low: top}, api.Wide{}, api.Wide{High: top, Low: top}, false},
		{api.Wide{High: top, Low: top}, api.Wide{Low: 1}, api.Wide{}, true}, {api.Wide{High: top, Low: top}, api.Wide{Low: 8}, api.Wide{Low: 7}, true}, {api.Wide{High: 1 << 63}, api.Wide{High: 1 << 63}, api.Wide{}, true}, {api.Wide{High: 1 << 63, Low: 3}, api.Wide{High: 1<<63 + 1, Low: 4}, api.Wide{High: 1, Low: 7}, true},
		{api.Wide{High: top}, api.Wide{High: 1}, api.Wide{}, true}, {api.Wide{High: top, Low: 5}, api.Wide{High: 1}, api.Wide{Low: 5}, true}, {api.Wide{High: 1<<63 - 1, Low: top}, api.Wide{High: 1 << 63, Low: 1}, api.Wide{}, true}, {api.Wide{High: top, Low: top}, api.Wide{High: top, Low: top}, api.Wide{High: top, Low: top - 1}, true}, {api.Wide{High: top, Low: top}, api.Wide{Low: top}, api.Wide{Low: top - 1}, true},
	} {
		adds(t, c.a, c.b, c.sum, c.beyond)
		adds(t, c.b, c.a, c.sum, c.beyond)
	}
}

// P6.1: Sub

func TestSubAtEdges(t *testing.T) {
	for _, c := range []struct {
		a, b, rest api.Wide
		beyond     bool
	}{
		{api.Wide{}, api.Wide{}, api.Wide{}, false}, {api.Wide{Low: 5}, api.Wide{Low: 3}, api.Wide{Low: 2}, false}, {api.Wide{High: 31, Low: 42}, api.Wide{High: 30, Low: 40}, api.Wide{High: 1, Low: 2}, false}, {api.Wide{High: 7, Low: 7}, api.Wide{High: 7, Low: 7}, api.Wide{}, false},
		{api.Wide{High: 1}, api.Wide{Low: 1}, api.Wide{Low: top}, false}, {api.Wide{High: 9, Low: 3}, api.Wide{High: 4, Low: 4}, api.Wide{High: 4, Low: top}, false}, {api.Wide{High: top}, api.Wide{Low: top}, api.Wide{High: top - 1, Low: 1}, false}, {api.Wide{High: 1}, api.Wide{Low: top}, api.Wide{Low: 1}, false},
		{api.Wide{High: top, Low: top}, api.Wide{High: top, Low: top}, api.Wide{}, false}, {api.Wide{High: top, Low: top}, api.Wide{}, api.Wide{High: top, Low: top}, false}, {api.Wide{High: top, Low: top}, api.Wide{High: top, Low: top - 1}, api.Wide{Low: 1}, false}, {api.Wide{High: 1 << 63}, api.Wide{High: 1<<63 - 1, Low: top}, api.Wide{Low: 1}, false},
		{api.Wide{}, api.Wide{Low: 1}, api.Wide{High: top, Low: top}, true}, {api.Wide{Low: 3}, api.Wide{Low: 5}, api.Wide{High: top, Low: top - 1}, true}, {api.Wide{}, api.Wide{High: 1}, api.Wide{High: top}, true}, {api.Wide{Low: 5}, api.Wide{High: 1}, api.Wide{High: top, Low: 5}, true}, {api.Wide{}, api.Wide{High: 1 << 63}, api.Wide{High: 1 << 63}, true},
		{api.Wide{High: 4, Low: 3}, api.Wide{High: 4, Low: 4}, api.Wide{High: top, Low: top}, true}, {api.Wide{}, api.Wide{High: top, Low: top}, api.Wide{Low: 1}, true}, {api.Wide{Low: top}, api.Wide{High: top, Low: top}, api.Wide{High: 1}, true}, {api.Wide{High: top, Low: top - 1}, api.Wide{High: top, Low: top}, api.Wide{High: top, Low: top}, true}, {api.Wide{Low: top}, api.Wide{High: 1}, api.Wide{High: top, Low: top}, true},
	} {
		subtracts(t, c.a, c.b, c.rest, c.beyond)
		adds(t, c.rest, c.b, c.a, c.beyond)
	}
}

func TestAddAndSubOfEachTwo(t *testing.T) {
	for _, a := range wides() {
		for _, b := range wides() {
			sum := new(big.Int).Add(number(a), number(b))
			adds(t, a, b, folded(sum), sum.Cmp(bound) >= 0)
			rest := new(big.Int).Sub(number(a), number(b))
			subtracts(t, a, b, folded(rest), rest.Sign() < 0)
		}
	}
}

func TestAddAndSubOfAny(t *testing.T) {
	rnd := rand.New(rand.NewSource(6))
	for range 50000 {
		a, b := drawn(rnd), drawn(rnd)
		sum := new(big.Int).Add(number(a), number(b))
		adds(t, a, b, folded(sum), sum.Cmp(bound) >= 0)
		rest := new(big.Int).Sub(number(a), number(b))
		subtracts(t, a, b, folded(rest), rest.Sign() < 0)
		compares(t, a, b, rest.Sign())
	}
}

// P6.1: Mul

func TestMulAtEdges(t *testing.T) {
	for _, c := range []struct {
		a, b uint64
		want api.Wide
	}{
		{1 << 63, 4, api.Wide{High: 2}}, {0, 0, api.Wide{}}, {0, top, api.Wide{}}, {1, 1, api.Wide{Low: 1}}, {1, top, api.Wide{Low: top}}, {2, 3, api.Wide{Low: 6}}, {2, top, api.Wide{High: 1, Low: top - 1}}, {1 << 63, 2, api.Wide{High: 1}}, {1 << 63, 1, api.Wide{Low: 1 << 63}}, {1 << 63, 1 << 63, api.Wide{High: 1 << 62}},
		{1 << 32, 1 << 32, api.Wide{High: 1}}, {1<<32 - 1, 1<<32 + 1, api.Wide{Low: top}}, {1<<32 + 1, 1<<32 + 1, api.Wide{High: 1, Low: 1<<33 + 1}}, {1 << 32, 1<<32 - 1, api.Wide{Low: 1<<64 - 1<<32}}, {10, 1844674407370955161, api.Wide{Low: top - 5}}, {10, 1844674407370955162, api.Wide{High: 1, Low: 4}},
		{top, top, api.Wide{High: top - 1, Low: 1}}, {top, top - 1, api.Wide{High: top - 2, Low: 2}},
	} {
		multiplies(t, c.a, c.b, c.want)
		multiplies(t, c.b, c.a, c.want)
	}
}

func TestMulOfEachTwo(t *testing.T) {
	for _, a := range parts {
		for _, b := range parts {
			multiplies(t, a, b, folded(new(big.Int).Mul(great(a), great(b))))
		}
	}
	rnd := rand.New(rand.NewSource(61))
	for range 50000 {
		a, b := drawn(rnd).Low, drawn(rnd).Low
		multiplies(t, a, b, folded(new(big.Int).Mul(great(a), great(b))))
	}
}

// P6.1: Times

func TestTimesAtEdges(t *testing.T) {
	for _, c := range []struct {
		a      api.Wide
		b      uint64
		want   api.Wide
		beyond uint64
	}{
		{api.Wide{}, 0, api.Wide{}, 0}, {api.Wide{}, 1, api.Wide{}, 0}, {api.Wide{}, top, api.Wide{}, 0}, {api.Wide{High: top, Low: top}, 0, api.Wide{}, 0}, {api.Wide{High: top, Low: top}, 1, api.Wide{High: top, Low: top}, 0}, {api.Wide{High: 3, Low: 4}, 1, api.Wide{High: 3, Low: 4}, 0}, {api.Wide{High: 3, Low: 4}, 5, api.Wide{High: 15, Low: 20}, 0},
		{api.Wide{Low: top}, 2, api.Wide{High: 1, Low: top - 1}, 0}, {api.Wide{Low: top}, top, api.Wide{High: top - 1, Low: 1}, 0}, {api.Wide{High: 7, Low: 1 << 63}, 2, api.Wide{High: 15}, 0}, {api.Wide{High: 1}, top, api.Wide{High: top}, 0}, {api.Wide{High: 1, Low: 1}, top, api.Wide{High: top, Low: top}, 0}, {api.Wide{High: 1<<63 - 1, Low: top}, 2, api.Wide{High: top, Low: top - 1}, 0},
		{api.Wide{High: 1, Low: 2}, top, api.Wide{Low: top - 1}, 1}, {api.Wide{High: 1 << 63}, 2, api.Wide{}, 1}, {api.Wide{High: 1 << 63, Low: 1 << 63}, 2, api.Wide{High: 1}, 1}, {api.Wide{High: top, Low: top}, 2, api.Wide{High: top, Low: top - 1}, 1}, {api.Wide{High: top, Low: top}, 10, api.Wide{High: top, Low: top - 9}, 9}, {api.Wide{High: 1 << 63}, top, api.Wide{High: 1 << 63}, 1<<63 - 1},
		{api.Wide{High: 2}, 1 << 63, api.Wide{}, 1}, {api.Wide{High: 2, Low: 2}, 1 << 63, api.Wide{High: 1}, 1}, {api.Wide{High: 0x1999999999999999, Low: 0x9999999999999999}, 10, api.Wide{High: top, Low: top - 5}, 0}, {api.Wide{High: 0x1999999999999999, Low: 0x999999999999999A}, 10, api.Wide{Low: 4}, 1},
		{api.Wide{High: top}, top, api.Wide{High: 1}, top - 1}, {api.Wide{High: top, Low: 1}, top, api.Wide{High: 1, Low: top}, top - 1}, {api.Wide{High: top, Low: top}, top, api.Wide{High: top, Low: 1}, top - 1},
	} {
		repeats(t, c.a, c.b, c.want, c.beyond)
	}
}

func timesIsTheProduct(t *testing.T, a api.Wide, b uint64) {
	t.Helper()
	product := new(big.Int).Mul(number(a), great(b))
	repeats(t, a, b, folded(product), new(big.Int).Rsh(product, 128).Uint64())
}

func TestTimesOfEachTwo(t *testing.T) {
	for _, a := range wides() {
		for _, b := range parts {
			timesIsTheProduct(t, a, b)
		}
	}
	rnd := rand.New(rand.NewSource(62))
	for range 50000 {
		timesIsTheProduct(t, drawn(rnd), drawn(rnd).Low)
	}
}

// P6.1: Div

func TestDivAtEdges(t *testing.T) {
	for _, c := range []struct {
		a    api.Wide
		b    uint64
		want api.Wide
		left uint64
	}{
		{api.Wide{}, 1, api.Wide{}, 0}, {api.Wide{}, top, api.Wide{}, 0}, {api.Wide{Low: 7}, 7, api.Wide{Low: 1}, 0}, {api.Wide{Low: 6}, 7, api.Wide{}, 6}, {api.Wide{Low: 8}, 7, api.Wide{Low: 1}, 1}, {api.Wide{Low: 13}, 7, api.Wide{Low: 1}, 6}, {api.Wide{Low: top}, 1, api.Wide{Low: top}, 0}, {api.Wide{Low: top}, top, api.Wide{Low: 1}, 0}, {api.Wide{Low: top - 1}, top, api.Wide{}, top - 1}, {api.Wide{Low: top}, 10, api.Wide{Low: 1844674407370955161}, 5},
		{api.Wide{High: 1}, 1, api.Wide{High: 1}, 0}, {api.Wide{High: 1}, 2, api.Wide{Low: 1 << 63}, 0}, {api.Wide{High: 1, Low: 1}, 2, api.Wide{Low: 1 << 63}, 1}, {api.Wide{High: 1}, 3, api.Wide{Low: 6148914691236517205}, 1}, {api.Wide{High: 1}, top, api.Wide{Low: 1}, 1}, {api.Wide{High: 1, Low: top - 2}, top, api.Wide{Low: 1}, top - 1}, {api.Wide{High: 1, Low: top - 1}, top, api.Wide{Low: 2}, 0},
		{api.Wide{High: 5, Low: 9}, 5, api.Wide{High: 1, Low: 1}, 4}, {api.Wide{High: 5, Low: 4}, 5, api.Wide{High: 1}, 4}, {api.Wide{High: 5}, 5, api.Wide{High: 1}, 0}, {api.Wide{High: 4, Low: top}, 5, api.Wide{Low: top}, 4}, {api.Wide{High: 5}, 4, api.Wide{High: 1, Low: 1 << 62}, 0}, {api.Wide{High: 5}, 6, api.Wide{Low: 15372286728091293013}, 2}, {api.Wide{High: 12, Low: 3}, 5, api.Wide{High: 2, Low: 7378697629483820647}, 0},
		{api.Wide{High: 1 << 63}, 1 << 63, api.Wide{High: 1}, 0}, {api.Wide{High: 1<<63 - 1, Low: top}, 1 << 63, api.Wide{Low: top}, 1<<63 - 1}, {api.Wide{High: top, Low: top}, 1 << 63, api.Wide{High: 1, Low: top}, 1<<63 - 1}, {api.Wide{High: top, Low: top}, 1, api.Wide{High: top, Low: top}, 0}, {api.Wide{High: top, Low: top}, 2, api.Wide{High: 1<<63 - 1, Low: top}, 1}, {api.Wide{High: top, Low: top}, 10, api.Wide{High: 0x1999999999999999, Low: 0x9999999999999999}, 5},
		{api.Wide{High: top, Low: top}, top, api.Wide{High: 1, Low: 1}, 0}, {api.Wide{High: top, Low: top - 1}, top, api.Wide{High: 1}, top - 1}, {api.Wide{High: top}, top, api.Wide{High: 1}, 0}, {api.Wide{High: top - 1, Low: top}, top, api.Wide{Low: top}, top - 1}, {api.Wide{High: top - 1}, top, api.Wide{Low: top - 1}, top - 1}, {api.Wide{High: top, Low: top}, top - 1, api.Wide{High: 1, Low: 2}, 3},
	} {
		divides(t, c.a, c.b, c.want, c.left)
	}
}

// This holds R2 too: with false there is neither a quotient nor anything left.
func TestDivByNought(t *testing.T) {
	for _, a := range wides() {
		if q, r, ok := wide.Div(a, 0); q != (api.Wide{}) || r != 0 || ok {
			t.Errorf("Div(%v, 0): %v, %d, %v", a, q, r, ok)
		}
	}
}

// Quotient times divisor and what is left is the number again, and less than the divisor is left.
func divComesBack(t *testing.T, a api.Wide, b uint64) {
	t.Helper()
	quotient, left := new(big.Int).QuoRem(number(a), great(b), new(big.Int))
	divides(t, a, b, folded(quotient), left.Uint64())
	q, r, _ := wide.Div(a, b)
	product, often := wide.Times(q, b)
	sum, beyond := wide.Add(product, wide.Of(r))
	if often != 0 || beyond || sum != a || r >= b {
		t.Errorf("Div(%v, %d): %v, %d is not the number again: %v", a, b, q, r, sum)
	}
}

func TestDivOfEachTwo(t *testing.T) {
	for _, a := range wides() {
		for _, b := range parts[1:] {
			divComesBack(t, a, b)
		}
	}
}

// Divisors just below, at and just above High, and numbers around a multiple of the divisor.
func TestDivAroundEachBound(t *testing.T) {
	for _, high := range parts {
		for _, low := range parts {
			for _, b := range []uint64{high - 1, high, high + 1, low - 1, low, low + 1} {
				if b == 0 {
					continue
				}
				a := api.Wide{High: high, Low: low}
				divComesBack(t, a, b)
				multiple := new(big.Int).Mul(new(big.Int).Quo(number(a), great(b)), great(b))
				for d := int64(-2); d <= 2; d++ {
					divComesBack(t, folded(new(big.Int).Add(multiple, big.NewInt(d))), b)
				}
			}
		}
	}
}

func TestDivOfAny(t *testing.T) {
	rnd := rand.New(rand.NewSource(63))
	for range 50000 {
		if a, b := drawn(rnd), drawn(rnd).Low; b != 0 {
			divComesBack(t, a, b)
		}
	}
}

// P6.1: Up and Down

func TestUpAtEdges(t *testing.T) {
	all := api.Wide{High: top, Low: top}
	for _, c := range []struct {
		a    api.Wide
		n    int
		want api.Wide
	}{
		{api.Wide{High: 3, Low: 4}, 0, api.Wide{High: 3, Low: 4}}, {api.Wide{High: 3, Low: 4}, 1, api.Wide{High: 6, Low: 8}}, {api.Wide{Low: 1 << 63}, 1, api.Wide{High: 1}}, {api.Wide{High: 1 << 63, Low: 1 << 63}, 1, api.Wide{High: 1}}, {api.Wide{Low: 1}, 63, api.Wide{Low: 1 << 63}}, {api.Wide{High: 1, Low: 2}, 63, api.Wide{High: 1<<63 + 1}}, {api.Wide{Low: 1}, 64, api.Wide{High: 1}}, {api.Wide{High: 3, Low: 4}, 64, api.Wide{High: 4}}, {api.Wide{High: 3, Low: 4}, 65, api.Wide{High: 8}}, {api.Wide{Low: 1}, 127, api.Wide{High: 1 << 63}}, {api.Wide{Low: 2}, 127, api.Wide{}}, {api.Wide{Low: 1}, 128, api.Wide{}},
		{all, 1, api.Wide{High: top, Low: top - 1}}, {all, 63, api.Wide{High: top, Low: 1 << 63}}, {all, 64, api.Wide{High: top}}, {all, 65, api.Wide{High: top - 1}}, {all, 127, api.Wide{High: 1 << 63}}, {all, 128, api.Wide{}}, {all, 129, api.Wide{}}, {all, 192, api.Wide{}}, {all, 256, api.Wide{}}, {all, 257, api.Wide{}}, {all, 1 << 16, api.Wide{}}, {all, 1 << 32, api.Wide{}}, {all, 1<<32 + 1, api.Wide{}}, {all, 1 << 62, api.Wide{}}, {all, math.MaxInt - 63, api.Wide{}}, {all, math.MaxInt, api.Wide{}},
		{all, -1, all}, {all, -63, all}, {all, -64, all}, {all, -65, all}, {all, -128, all}, {all, -1 << 32, all}, {all, math.MinInt + 64, all}, {all, math.MinInt + 63, all}, {all, math.MinInt + 1, all}, {all, math.MinInt, all}, {api.Wide{High: 3, Low: 4}, -1, api.Wide{High: 3, Low: 4}}, {api.Wide{High: 3, Low: 4}, math.MinInt, api.Wide{High: 3, Low: 4}},
	} {
		goesUp(t, c.a, c.n, c.want)
	}
}

func TestDownAtEdges(t *testing.T) {
	all := api.Wide{High: top, Low: top}
	for _, c := range []struct {
		a    api.Wide
		n    int
		want api.Wide
	}{
		{api.Wide{High: 3, Low: 4}, 0, api.Wide{High: 3, Low: 4}}, {api.Wide{High: 3, Low: 4}, 1, api.Wide{High: 1, Low: 1<<63 + 2}}, {api.Wide{Low: 1}, 1, api.Wide{}}, {api.Wide{Low: 3}, 1, api.Wide{Low: 1}}, {api.Wide{High: 1}, 1, api.Wide{Low: 1 << 63}}, {api.Wide{High: 1 << 63}, 63, api.Wide{High: 1}}, {api.Wide{High: 1 << 62, Low: 1 << 63}, 63, api.Wide{Low: 1<<63 + 1}}, {api.Wide{High: 1}, 64, api.Wide{Low: 1}}, {api.Wide{High: 3, Low: 4}, 64, api.Wide{Low: 3}}, {api.Wide{High: 3, Low: 4}, 65, api.Wide{Low: 1}}, {api.Wide{High: 1 << 63}, 127, api.Wide{Low: 1}}, {api.Wide{High: 1<<63 - 1, Low: top}, 127, api.Wide{}}, {api.Wide{High: 1 << 63}, 128, api.Wide{}},
		{all, 1, api.Wide{High: 1<<63 - 1, Low: top}}, {all, 63, api.Wide{High: 1, Low: top}}, {all, 64, api.Wide{Low: top}}, {all, 65, api.Wide{Low: 1<<63 - 1}}, {all, 127, api.Wide{Low: 1}}, {all, 128, api.Wide{}}, {all, 129, api.Wide{}}, {all, 192, api.Wide{}}, {all, 256, api.Wide{}}, {all, 257, api.Wide{}}, {all, 1 << 16, api.Wide{}}, {all, 1 << 32, api.Wide{}}, {all, 1<<32 + 1, api.Wide{}}, {all, 1 << 62, api.Wide{}}, {all, math.MaxInt - 63, api.Wide{}}, {all, math.MaxInt, api.Wide{}},
		{all, -1, all}, {all, -63, all}, {all, -64, all}, {all, -65, all}, {all, -128, all}, {all, -1 << 32, all}, {all, math.MinInt + 64, all}, {all, math.MinInt + 63, all}, {all, math.MinInt + 1, all}, {all, math.MinInt, all}, {api.Wide{High: 3, Low: 4}, -1, api.Wide{High: 3, Low: 4}}, {api.Wide{High: 3, Low: 4}, math.MinInt, api.Wide{High: 3, Low: 4}},
	} {
		goesDown(t, c.a, c.n, c.want)
	}
}

func TestUpAndDownByEachNumber(t *testing.T) {
	rnd := rand.New(rand.NewSource(64))
	numbers := wides()
	for range 200 {
		numbers = append(numbers, drawn(rnd))
	}
	for _, a := range numbers {
		for n := -130; n <= 260; n++ {
			goesUp(t, a, n, folded(new(big.Int).Lsh(number(a), uint(max(n, 0)))))
			goesDown(t, a, n, folded(new(big.Int).Rsh(number(a), uint(max(n, 0)))))
		}
	}
}

// Numbers that are small ones in their lowest bits: nothing is left by those above 0, all by those below.
func TestUpAndDownByGreatNumbers(t *testing.T) {
	for _, a := range wides() {
		for bit := 8; bit < 63; bit++ {
			for _, small := range []int{0, 1, 63, 64, 65, 127} {
				goesUp(t, a, 1<<bit+small, api.Wide{})
				goesDown(t, a, 1<<bit+small, api.Wide{})
				goesUp(t, a, -1<<bit+small, a)
				goesDown(t, a, -1<<bit+small, a)
			}
		}
	}
}

// P6.2: Text and Parse

func TestTextsAtEdges(t *testing.T) {
	for _, c := range texts {
		writes(t, c.a, c.s)
		reads(t, c.s, c.a)
		reads(t, string([]byte(c.s)), c.a)
	}
}

func TestParseOfNoTexts(t *testing.T) {
	for _, s := range noTexts {
		refuses(t, s)
	}
}

// What is wrong stands around a text that is none any more by it.
func TestParseOfTextsWithMore(t *testing.T) {
	for _, c := range texts {
		for _, more := range []string{"0", "00", "+", "-", " ", "\n", "\x00", "_", ".", "0x", "/", ":", "\x80", "\xff", "\u00a0"} {
			refuses(t, more+c.s)
		}
		for _, more := range []string{"+", "-", " ", "\n", "\x00", "_", ".", ".0", "e0", "n", "u", "/", ":", "\x80", "\xff", "\u00a0", strings.Repeat("0", 39), strings.Repeat("1", 1<<16)} {
			judges(t, c.s+more)
		}
	}
}

func TestParseOfEveryByteAtEveryPlace(t *testing.T) {
	for _, good := range []string{"0", "7", "10", "907", "18446744073709551615", "10000000000000000000", "99999999999999999999999999999999999999", "100000000000000000000000000000000000000", "340282366920938463463374607431768211455"} {
		judges(t, good)
		for at := range len(good) {
			judges(t, good[:at]+good[at+1:])
			for c := range 256 {
				judges(t, good[:at]+one(c)+good[at+1:])
				judges(t, good[:at]+one(c)+good[at:])
			}
		}
		for c := range 256 {
			judges(t, good+one(c))
		}
	}
}

func TestParseOfShortTexts(t *testing.T) {
	for high := range 256 {
		judges(t, one(high))
		for low := range 256 {
			judges(t, one(high)+one(low))
		}
	}
	for n := range 20000 {
		judges(t, fmt.Sprint(n))
		judges(t, fmt.Sprintf("%05d", n))
	}
}

// The numbers around each power of 2 and of 10, and around some of their multiples.
func TestTextsAroundEachPower(t *testing.T) {
	for k := range int64(132) {
		for _, power := range []*big.Int{new(big.Int).Lsh(big.NewInt(1), uint(k)), new(big.Int).Exp(big.NewInt(10), big.NewInt(k/3), nil)} {
			for _, times := range []int64{1, 2, 3, 5, 9, 10, 11} {
				middle := new(big.Int).Mul(power, big.NewInt(times))
				for d := int64(-12); d <= 12; d++ {
					judges(t, new(big.Int).Add(middle, big.NewInt(d)).String())
				}
			}
		}
	}
}

// Each last digit, and each digit ahead of it, of numbers near the greatest.
func TestTextsAroundTheGreatest(t *testing.T) {
	for d := int64(-2000); d <= 2000; d++ {
		judges(t, new(big.Int).Add(bound, big.NewInt(d)).String())
	}
}

// A Text is read as the same number, and what is read has just that Text.
func TestParseOfTextIsTheNumber(t *testing.T) {
	rnd := rand.New(rand.NewSource(65))
	numbers := wides()
	for range 50000 {
		numbers = append(numbers, drawn(rnd))
	}
	for _, a := range numbers {
		writes(t, a, number(a).String())
		reads(t, wide.Text(a), a)
	}
	for range 50000 {
		digits := make([]byte, rnd.Intn(41))
		for i := range digits {
			digits[i] = "0123456789"[rnd.Intn(10)]
		}
		judges(t, string(digits))
	}
}

// R5: what a refused call began is in no later answer.
func TestParseBehindARefusal(t *testing.T) {
	for _, wrong := range []string{"", "12x", "00", "340282366920938463463374607431768211456", strings.Repeat("9", 100)} {
		refuses(t, wrong)
		reads(t, "0", api.Wide{})
		reads(t, "18446744073709551617", api.Wide{High: 1, Low: 1})
		writes(t, api.Wide{}, "0")
		writes(t, api.Wide{High: 1, Low: 1}, "18446744073709551617")
	}
}
