package decit_test

import (
	"fmt"
	"math/big"
	"math/rand"
	"regexp"
	"strconv"
	"strings"
	"testing"

	"propylon/api"
	"propylon/deci"
	"propylon/decit"
)

const (
	sign = 1 << 63
	all  = 1<<64 - 1

	nan = 0x7C << 56
	inf = 0x78 << 56
)

// nines is the greatest coefficient, thirds and tens are others of 34 digits.
var (
	nines  = strings.Repeat("9", 34)
	thirds = "12" + strings.Repeat("3", 32)
	tens   = "1" + noughts(33)
)

// tenTo34 is 10^34 by its digits.
var tenTo34 = great("1" + noughts(34))

// pair are the bits of one decimal.
type pair struct {
	high, low uint64
}

// texts are texts without a sign, with the coefficient and the exponent, written out.
var texts = []struct {
	coef string
	exp  int
	want string
}{
	// Coefficients of 0 and 1: a is exp.
	{"0", 0, "0"}, {"0", -1, "0.0"}, {"0", -2, "0.00"}, {"0", -5, "0.00000"}, {"0", -6, "0.000000"}, {"0", -7, "0E-7"}, {"0", -8, "0E-8"}, {"0", -6176, "0E-6176"}, {"0", 1, "0E+1"}, {"0", 2, "0E+2"}, {"0", 6111, "0E+6111"},
	{"1", 0, "1"}, {"1", -1, "0.1"}, {"1", -5, "0.00001"}, {"1", -6, "0.000001"}, {"1", -7, "1E-7"}, {"1", -8, "1E-8"}, {"1", -10, "1E-10"}, {"1", -100, "1E-100"}, {"1", -6175, "1E-6175"}, {"1", -6176, "1E-6176"}, {"1", 1, "1E+1"}, {"1", 9, "1E+9"}, {"1", 10, "1E+10"}, {"1", 6110, "1E+6110"}, {"1", 6111, "1E+6111"},
	{"7", 0, "7"}, {"9", -6, "0.000009"}, {"9", -7, "9E-7"}, {"5", 1, "5E+1"},
	// Two digits and more, with noughts at their end, too.
	{"10", 0, "10"}, {"10", -1, "1.0"}, {"10", -2, "0.10"}, {"10", -7, "0.0000010"}, {"10", -8, "1.0E-7"}, {"10", 1, "1.0E+2"}, {"10", 6111, "1.0E+6112"}, {"10", -6176, "1.0E-6175"},
	{"15", -1, "1.5"}, {"15", -2, "0.15"}, {"15", -3, "0.015"}, {"12", 0, "12"}, {"12", 1, "1.2E+2"}, {"12", -7, "0.0000012"}, {"12", -8, "1.2E-7"}, {"12", -6176, "1.2E-6175"}, {"12", 6111, "1.2E+6112"},
	{"123", -1, "12.3"}, {"123", -2, "1.23"}, {"123", -3, "0.123"}, {"123", -4, "0.0123"}, {"123", -8, "0.00000123"}, {"123", -9, "1.23E-7"}, {"100", 0, "100"}, {"100", -2, "1.00"}, {"1000", 1, "1.000E+4"}, {"1230", -2, "12.30"},
	// 34 digits.
	{nines, 0, nines}, {nines, -1, nines[1:] + ".9"}, {nines, -33, "9." + nines[1:]}, {nines, -34, "0." + nines}, {nines, -35, "0.0" + nines}, {nines, -39, "0.00000" + nines}, {nines, -40, "9." + nines[1:] + "E-7"}, {nines, 1, "9." + nines[1:] + "E+34"}, {nines, 6111, "9." + nines[1:] + "E+6144"}, {nines, -6176, "9." + nines[1:] + "E-6143"},
	{thirds, -32, "12." + thirds[2:]}, {thirds, -33, "1." + thirds[1:]}, {thirds, -34, "0." + thirds}, {tens, 0, tens}, {tens, -33, "1." + tens[1:]}, {tens, 6111, "1." + tens[1:] + "E+6144"},
	{"18446744073709551615", -19, "1.8446744073709551615"}, {"18446744073709551616", -20, "0.18446744073709551616"}, {"18446744073709551616", 2, "1.8446744073709551616E+21"},
}

// coefs are coefficients for the sweeps: of each number of digits that matters, with noughts at the end and without.
var coefs = []string{"0", "1", "5", "9", "10", "12", "90", "99", "100", "101", "123456", "1000000", "1234567", "12345678", "18446744073709551615", "18446744073709551616", "340282366920938463463374607431768", nines[1:], tens[:33], tens, thirds, nines[:33] + "0", nines}

// reals tells apart by an expression what has the form of a number.
var reals = regexp.MustCompile(`\A([+-]?)(?:([0-9]+)\.?([0-9]*)|\.([0-9]+))(?:[eE]([+-]?[0-9]+))?\z`)

func noughts(n int) string {
	return strings.Repeat("0", n)
}

// great reads a number without a bound.
func great(digits string) *big.Int {
	n, ok := new(big.Int).SetString(digits, 10)
	if !ok {
		panic(digits)
	}
	return n
}

// power is 10^n.
func power(n int) *big.Int {
	return new(big.Int).Exp(big.NewInt(10), big.NewInt(int64(n)), nil)
}

// joined are the bits by their places, without the packages below.
func joined(neg bool, coef *big.Int, exp int) pair {
	if coef.Cmp(tenTo34) >= 0 || exp < -6176 || exp > 6111 {
		panic(coef.String() + " " + strconv.Itoa(exp))
	}
	low := new(big.Int).And(coef, new(big.Int).SetUint64(all)).Uint64()
	high := new(big.Int).Rsh(coef, 64).Uint64() | uint64(exp+6176)<<49
	if neg {
		high |= sign
	}
	return pair{high, low}
}

// clipped is a text short enough to be told.
func clipped(s string) string {
	if len(s) > 90 {
		return fmt.Sprintf("%q .. %q (%d bytes)", s[:40], s[len(s)-40:], len(s))
	}
	return strconv.Quote(s)
}

func writes(t *testing.T, p pair, want string) {
	t.Helper()
	if s := decit.Text(p.high, p.low); s != want {
		t.Errorf("Text(%016x, %016x): %s, not %s", p.high, p.low, clipped(s), clipped(want))
	}
}

func parses(t *testing.T, s string, want pair) {
	t.Helper()
	if h, l, e := decit.Parse(s); h != want.high || l != want.low || e != api.OK {
		t.Errorf("Parse(%s): %016x, %016x, %d, not %016x, %016x, OK", clipped(s), h, l, e, want.high, want.low)
	}
}

// fails also holds R2: with an error there are 0 and 0.
func fails(t *testing.T, s string, want api.Errno) {
	t.Helper()
	if h, l, e := decit.Parse(s); h != 0 || l != 0 || e != want {
		t.Errorf("Parse(%s): %016x, %016x, %d, not 0, 0, %d", clipped(s), h, l, e, want)
	}
}

// is asks Parse for a number of either sign: s has none.
func is(t *testing.T, s, coef string, exp int) {
	t.Helper()
	parses(t, s, joined(false, great(coef), exp))
	parses(t, "+"+s, joined(false, great(coef), exp))
	parses(t, "-"+s, joined(true, great(coef), exp))
}

// isNone asks Parse for what is wrong, whatever sign stands ahead.
func isNone(t *testing.T, s string, want api.Errno) {
	t.Helper()
	fails(t, s, want)
	fails(t, "+"+s, want)
	fails(t, "-"+s, want)
}

// laid is the chapter's sentence: the digits behind a point come from a fraction that has just so many of them.
func laid(coef *big.Int, exp int) string {
	digits := coef.String()
	a := exp + len(digits) - 1
	if exp <= 0 && a >= -6 {
		return new(big.Rat).SetFrac(coef, power(-exp)).FloatString(-exp)
	}
	if len(digits) > 1 {
		digits = digits[:1] + "." + digits[1:]
	}
	return fmt.Sprintf("%sE%+d", digits, a)
}

// exactly is the coefficient that c times 10^q has with the exponent e, if there is one.
func exactly(c *big.Int, q, e int) (*big.Int, bool) {
	coef, left := new(big.Int), new(big.Int)
	if e > q {
		coef.QuoRem(c, power(e-q), left)
	} else {
		coef.Mul(c, power(q-e))
	}
	return coef, left.Sign() == 0 && coef.Cmp(tenTo34) < 0
}

// found tries each exponent that there is, the ones nearest to q first. A number that is not 0 has none further off than 400: 300 digits have not so many noughts, nor is there room for them.
func found(neg bool, c *big.Int, q int) (pair, bool) {
	reach := 400
	if c.Sign() == 0 {
		q, reach = min(max(q, -20000), 20000), 40000
	}
	for off := range reach {
		for _, e := range []int{q - off, q + off} {
			if e < -6176 || e > 6111 {
				continue
			}
			if c.Sign() == 0 {
				return joined(neg, c, e), true
			}
			if coef, ok := exactly(c, q, e); ok {
				return joined(neg, coef, e), true
			}
		}
	}
	return pair{}, false
}

// judged is the chapter's sentence, by the expression and by trying.
func judged(s string) (pair, api.Errno) {
	switch s {
	case "NaN":
		return pair{nan, 0}, api.OK
	case "Infinity":
		return pair{inf, 0}, api.OK
	case "-Infinity":
		return pair{sign | inf, 0}, api.OK
	}
	parts := reals.FindStringSubmatch(s)
	if parts == nil {
		return pair{}, api.ErrForm
	}
	if len(s) > 300 {
		return pair{}, api.ErrNum
	}
	behind := parts[3] + parts[4]
	q := new(big.Int)
	if parts[5] != "" {
		q = great(parts[5])
	}
	q.Sub(q, big.NewInt(int64(len(behind))))
	far := big.NewInt(1 << 30)
	if q.CmpAbs(far) > 0 {
		q = far.Mul(far, big.NewInt(int64(q.Sign())))
	}
	p, ok := found(parts[1] == "-", great(parts[2]+behind), int(q.Int64()))
	if !ok {
		return pair{}, api.ErrNum
	}
	return p, api.OK
}

func judges(t *testing.T, s string) {
	t.Helper()
	if want, e := judged(s); e == api.OK {
		parses(t, s, want)
	} else {
		fails(t, s, e)
	}
}

// keeps is P15.3 for any bits, and holds Text against the sentence by what Split tells.
func keeps(t *testing.T, p pair) {
	t.Helper()
	kind, neg, coef, exp := deci.Split(p.high, p.low)
	front := ""
	if neg {
		front = "-"
	}
	switch kind {
	case deci.NaN:
		writes(t, p, "NaN")
		parses(t, decit.Text(p.high, p.low), pair{nan, 0})
		return
	case deci.Inf:
		writes(t, p, front+"Infinity")
		parses(t, decit.Text(p.high, p.low), pair{p.high&sign | inf, 0})
		return
	}
	n := new(big.Int).SetUint64(coef.High)
	n.Lsh(n, 64).Add(n, new(big.Int).SetUint64(coef.Low))
	writes(t, p, front+laid(n, exp))
	high, low, ok := deci.Join(neg, coef, exp)
	if !ok || deci.Plain(p.high, p.low) && (pair{high, low}) != p {
		t.Errorf("Join of Split(%016x, %016x): %016x, %016x, %v", p.high, p.low, high, low, ok)
	}
	parses(t, decit.Text(p.high, p.low), pair{high, low})
}

// P15.1: Text

func TestTexts(t *testing.T) {
	for _, c := range texts {
		writes(t, joined(false, great(c.coef), c.exp), c.want)
		writes(t, joined(true, great(c.coef), c.exp), "-"+c.want)
	}
}

func TestTextsOfNames(t *testing.T) {
	for _, more := range []pair{{0, 0}, {0, 1}, {1, 0}, {0, all}, {1 << 57, 0}, {1 << 56, 5}, {1<<58 - 1, all}} {
		writes(t, pair{nan | more.high, more.low}, "NaN")
		writes(t, pair{sign | nan | more.high, more.low}, "NaN")
		writes(t, pair{inf | more.high, more.low}, "Infinity")
		writes(t, pair{sign | inf | more.high, more.low}, "-Infinity")
	}
}

// Of what is not plain, Split tells a coefficient of 0.
func TestTextsOfWhatIsNotPlain(t *testing.T) {
	for _, c := range []struct {
		high, low uint64
		want      string
	}{
		// The first of the Finite forms.
		{0x6C10000000000000, 0, "0"}, {0x6C10000000000000, 5, "0"}, {0x6C107FFFFFFFFFFF, all, "0"}, {0x6C13FFFFFFFFFFFF, 5, "0E+7"}, {0x6C0F800000000000, 1, "0.0"}, {0x6C0D000000000000, 1, "0.000000"}, {0x6C0C800000000000, 1, "0E-7"}, {0x6000000000000000, 1, "0E-6176"}, {0x77FF800000000000, 9, "0E+6111"}, {0x77FFFFFFFFFFFFFF, all, "0E+6111"},
		// Coefficients of 10^34 and more.
		{0x3041ED09BEAD87C0, 0x378D8E6400000000, "0"}, {0x3041FFFFFFFFFFFF, all, "0"}, {0x303FFFFFFFFFFFFF, all, "0.0"}, {0x0001ED09BEAD87C1, 0, "0E-6176"}, {0x5FFFFFFFFFFFFFFF, all, "0E+6111"},
	} {
		writes(t, pair{c.high, c.low}, c.want)
		writes(t, pair{sign | c.high, c.low}, "-"+c.want)
	}
}

// Every coefficient goes with each exponent at which the form changes, and with those at the ends.
func TestTextsAtEachExponent(t *testing.T) {
	exps := []int{-6176, -6175, -6144, -6143, -1000, -101, -100, -99, 99, 100, 101, 1000, 2016, 6110, 6111}
	for exp := -50; exp <= 50; exp++ {
		exps = append(exps, exp)
	}
	for _, digits := range coefs {
		for _, exp := range exps {
			keeps(t, joined(false, great(digits), exp))
			keeps(t, joined(true, great(digits), exp))
		}
	}
}

// Each number of digits goes with as many digits behind the point, with fewer and with more, and with an a of -6 and of -7.
func TestTextsOfEachNumberOfDigits(t *testing.T) {
	for n := 1; n <= 34; n++ {
		for _, digits := range []string{"1" + noughts(n-1), nines[:n], thirds[:n]} {
			c := great(digits)
			point := func(exp int, want string) {
				t.Helper()
				writes(t, joined(false, c, exp), want)
				writes(t, joined(true, c, exp), "-"+want)
			}
			point(0, digits)
			point(-n, "0."+digits)
			point(-n-1, "0.0"+digits)
			point(-n-5, "0.00000"+digits)
			split := digits[:1]
			if n > 1 {
				split += "." + digits[1:]
				point(1-n, split)
				point(-1, digits[:n-1]+"."+digits[n-1:])
			}
			point(-n-6, split+"E-7")
			point(-n-7, split+"E-8")
			point(1, split+"E+"+strconv.Itoa(n))
			point(6111, split+"E+"+strconv.Itoa(6110+n))
			point(-6176, split+"E-"+strconv.Itoa(6177-n))
		}
	}
}

// P15.2: Parse

func TestParseOfNames(t *testing.T) {
	parses(t, "NaN", pair{nan, 0})
	parses(t, "Infinity", pair{inf, 0})
	parses(t, "-Infinity", pair{sign | inf, 0})
	for _, s := range []string{"+NaN", "-NaN", "+Infinity", "--Infinity", "+-Infinity", "-+Infinity", "- Infinity", "nan", "NAN", "Nan", "naN", "NaNs", "sNaN", "qNaN", "NaN0", "NaN123", "NaN(1)", "NaN ", " NaN", "NaN\x00", "NaNNaN", "Na", "N", "aN", "inf", "Inf", "INF", "-inf", "-Inf", "infinity", "INFINITY", "-infinity", "-INFINITY", "Infinit", "-Infinit", "nfinity", "Infinityy", "Infinity0", "Infinity1", "-Infinity1", "Infinity ", " Infinity", " -Infinity", "-Infinity ", "Infinity\x00", "-Infinity\n", "InfinityE1", "Infinity.", "1Infinity", "\u221e", "-\u221e"} {
		fails(t, s, api.ErrForm)
	}
}

func TestParseOfEveryByteAtEveryPlace(t *testing.T) {
	for _, good := range []string{"NaN", "Infinity", "-Infinity", "0", "-7", "+10", "1.5", ".5", "5.", "-12.034e-05", "+.9E+6111", "0.0e0", "100E-6178", nines + ".", "." + nines + "e9"} {
		judges(t, good)
		for at := range len(good) {
			judges(t, good[:at]+good[at+1:])
			for c := range 256 {
				one := string([]byte{byte(c)})
				judges(t, good[:at]+one+good[at+1:])
				judges(t, good[:at]+one+good[at:])
			}
		}
		for c := range 256 {
			judges(t, good+string([]byte{byte(c)}))
		}
	}
}

func TestParseOfShortTexts(t *testing.T) {
	judges(t, "")
	for high := range 256 {
		judges(t, string([]byte{byte(high)}))
		for low := range 256 {
			judges(t, string([]byte{byte(high), byte(low)}))
		}
	}
	signs := "+-.eE059"
	for n := range 1 << 15 {
		s := make([]byte, 5)
		for i := range s {
			s[i] = signs[n>>(3*i)&7]
		}
		judges(t, string(s))
		judges(t, string(s[:3]))
		judges(t, string(s[:4]))
	}
}

// Each part is left out, there, and there twice, with each other one.
func TestParseOfEachPart(t *testing.T) {
	for _, front := range []string{"", "+", "-", "+-", "--"} {
		for _, ones := range []string{"", "0", "7", "00120"} {
			for _, point := range []string{"", ".", ".."} {
				for _, behind := range []string{"", "0", "5", "0340"} {
					for _, e := range []string{"", "e", "E", "ee"} {
						for _, way := range []string{"", "+", "-", "-+"} {
							for _, exponent := range []string{"", "0", "12", "007"} {
								for _, tail := range []string{"", ".", " ", "e1", "-"} {
									judges(t, front+ones+point+behind+e+way+exponent+tail)
								}
							}
						}
					}
				}
			}
		}
	}
}

func TestParseOfNoForm(t *testing.T) {
	for _, s := range []string{"", ".", "..", "e", "E5", ".e5", ".E", "1e", "1E", "1.e", "1e+", "1e-", "1E+", ".5e", "e-5", "1e1.5", "1e.5", "1e1.", "1.2.3", "1..2", ".1.", "1e5e5", "1ee5", "1eE5", "1e+-5", "1e--5", "1e 5", "1-", "1+", "1e5-", "1-e5", "1 ", " 1", "1\n", "\t1", "1\x00", "\x001", "1,5", "1_0", "0x1", "1f", "1d", "1n", "1e5f", "1/2", "/", ":", "1:", "1/", "\u0661", "1\u00a0", "\xff", "1\x80", "1\xb1", "\u22121", "\uff11"} {
		isNone(t, s, api.ErrForm)
	}
	for _, s := range []string{"+", "-", "++1", "--1", "+-1", "-+1", "- 1", "+ 1", "1+1", "-.", "+.", "-e5", "+.e5"} {
		fails(t, s, api.ErrForm)
	}
}

func TestParseWithPartsLeftOut(t *testing.T) {
	for _, c := range []struct {
		s, coef string
		exp     int
	}{
		{"5", "5", 0}, {"5.", "5", 0}, {".5", "5", -1}, {"5.0", "50", -1}, {"0.5", "5", -1}, {".50", "50", -2}, {"5e0", "5", 0}, {"5.e1", "5", 1}, {".5e1", "5", 0}, {"5E1", "5", 1}, {"5e+1", "5", 1}, {"5e-1", "5", -1}, {"5.5E-1", "55", -2}, {"5.5E+3", "55", 2}, {"5e-0", "5", 0}, {"5E+0", "5", 0}, {"5e00", "5", 0}, {"5e007", "5", 7}, {"5e-007", "5", -7},
		{"1.50", "150", -2}, {"1.5e2", "15", 1}, {"100", "100", 0}, {"1e2", "1", 2}, {"00012", "12", 0}, {"012.340", "12340", -3}, {"0000.0012", "12", -4}, {"0.", "0", 0}, {".0", "0", -1}, {"0.0", "0", -1}, {"00", "0", 0}, {"000.000", "0", -3}, {"0e5", "0", 5}, {"0E-5", "0", -5}, {"0.00e5", "0", 3},
	} {
		is(t, c.s, c.coef, c.exp)
	}
}

// Noughts ahead of the digits do not count, nor do those at their end, where there is no other way.
func TestParseWithManyNoughts(t *testing.T) {
	for _, n := range []int{1, 2, 33, 34, 35, 38, 39, 40, 100, 200, 255} {
		for _, digits := range []string{"1", "12", "907", nines, thirds} {
			is(t, noughts(n)+digits, digits, 0)
			is(t, noughts(n)+digits+".", digits, 0)
			is(t, "."+noughts(n)+digits, digits, -n-len(digits))
			is(t, "0."+noughts(n)+digits+"E+"+strconv.Itoa(n), digits, -len(digits))
			room := 34 - len(digits)
			is(t, digits+noughts(n), digits+noughts(min(n, room)), max(n-room, 0))
			is(t, digits+noughts(n)+"e-9", digits+noughts(min(n, room)), max(n-room, 0)-9)
			is(t, digits+"."+noughts(n), digits+noughts(min(n, room)), max(n-room, 0)-n)
			is(t, noughts(5)+digits+noughts(n)+".e+5", digits+noughts(min(n, room)), max(n-room, 0)+5)
		}
		is(t, noughts(n), "0", 0)
		is(t, noughts(n)+".", "0", 0)
		is(t, "."+noughts(n), "0", -n)
		is(t, noughts(n)+"."+noughts(9)+"e9", "0", 0)
		is(t, noughts(n)+"."+noughts(9)+"e10", "0", 1)
	}
}

func TestParseOf34And35Digits(t *testing.T) {
	for _, digits := range []string{nines, thirds, tens} {
		is(t, digits, digits, 0)
		is(t, digits+"0", digits, 1)
		is(t, digits+"00", digits, 2)
		is(t, digits+"0e-1", digits, 0)
		is(t, digits[:17]+"."+digits[17:]+"0", digits, -17)
		is(t, "0"+digits, digits, 0)
		for _, last := range []string{"1", "5", "9", "01", "10", "000001", "0000090"} {
			isNone(t, digits+last, api.ErrNum)
			isNone(t, digits+"."+last, api.ErrNum)
			isNone(t, "."+digits+last+"e34", api.ErrNum)
		}
	}
	isNone(t, "1"+noughts(33)+"1", api.ErrNum)
	isNone(t, "1"+noughts(34)+"1", api.ErrNum)
	isNone(t, "1"+noughts(90)+"1", api.ErrNum)
	is(t, "1"+noughts(32)+"1", "1"+noughts(32)+"1", 0)
	is(t, "1"+noughts(32)+"100", "1"+noughts(32)+"1", 2)
	// Bits of 10^34 and more would be within 113 and 128 bits, or past them.
	for _, s := range []string{"10384593717069655257060992658440191", "10384593717069655257060992658440192", "340282366920938463463374607431768211455", "340282366920938463463374607431768211456", "340282366920938463463374607431768211457", "680564733841876926926749214863536422913", strings.Repeat("9", 38), strings.Repeat("9", 39), strings.Repeat("9", 299)} {
		isNone(t, s, api.ErrNum)
	}
}

func TestParseBelowTheLeastExponent(t *testing.T) {
	for _, c := range []struct {
		s, coef string
		exp     int
	}{
		{"1E-6176", "1", -6176}, {"10E-6176", "10", -6176}, {"10E-6177", "1", -6176}, {"100E-6177", "10", -6176}, {"1.0E-6176", "1", -6176}, {"1.00E-6175", "10", -6176}, {"1.000E-6176", "1", -6176}, {"12300E-6178", "123", -6176}, {"0.10E-6175", "1", -6176}, {".1E-6175", "1", -6176},
		{tens + "E-6176", tens, -6176}, {tens + "E-6177", tens[:33], -6176}, {tens + "E-6209", "1", -6176}, {tens + "0E-6177", tens, -6176}, {tens + "00E-6177", tens, -6175}, {"1" + noughts(280) + "E-6456", "1", -6176}, {nines + "000E-6179", nines, -6176}, {nines + "E-6176", nines, -6176},
	} {
		is(t, c.s, c.coef, c.exp)
	}
	for _, s := range []string{"1E-6177", "1E-6178", "9E-6177", "15E-6177", "15E-6178", "10E-6178", "1.5E-6176", "1.05E-6175", ".1E-6176", "12300E-6179", "101E-6177", tens + "E-6210", nines + "E-6177", nines + "000E-6180", "1" + noughts(280) + "E-6457", "1E-9999", "1E-10000", "1E-65536", "1E-32768", "1E-59360", "1E-2147483648", "1E-4294967296", "1E-9223372036854775808", "1E-18446744073709551616", "1" + noughts(250) + "E-99999", "1e-" + strings.Repeat("9", 290)} {
		isNone(t, s, api.ErrNum)
	}
}

func TestParseAboveTheGreatestExponent(t *testing.T) {
	for _, c := range []struct {
		s, coef string
		exp     int
	}{
		{"1E6111", "1", 6111}, {"1E6112", "10", 6111}, {"1E+6144", tens, 6111}, {"12E6112", "120", 6111}, {"12E6143", "12" + noughts(32), 6111}, {"1.5E6112", "15", 6111}, {"1.5E6113", "150", 6111}, {"0.001E6115", "10", 6111}, {nines + "E6111", nines, 6111}, {nines[1:] + "E6112", nines[1:] + "0", 6111}, {"9." + nines[1:] + "E6144", nines, 6111}, {tens + "E6111", tens, 6111}, {tens + "0E6110", tens, 6111}, {nines + "00E6109", nines, 6111}, {"1" + noughts(280) + "E5864", tens, 6111}, {"." + noughts(280) + "1E6392", "1", 6111}, {"." + noughts(280) + "1E6393", "10", 6111}, {"." + noughts(280) + "1E6425", tens, 6111}, {"." + noughts(280) + "1E6391", "1", 6110},
	} {
		is(t, c.s, c.coef, c.exp)
	}
	for _, s := range []string{"1E6145", "1E6146", "10E6144", "12E6144", "10000E6141", "1.5E6145", tens + "E6112", nines + "E6112", nines[1:] + "E6113", nines + "0E6111", nines + "00E6110", "1" + noughts(280) + "E5865", "." + noughts(280) + "1E6426", "1E9999", "1E10000", "1E32767", "1E65536", "1E71647", "1E2147483648", "1E4294967296", "1E9223372036854775807", "1E18446744073709551616", "." + noughts(250) + "1E99999", "1e" + strings.Repeat("9", 290)} {
		isNone(t, s, api.ErrNum)
	}
}

// A 0 has every exponent: the nearest one is q, or a bound.
func TestParseOfNought(t *testing.T) {
	for _, c := range []struct {
		s   string
		exp int
	}{
		{"0", 0}, {"0E-6176", -6176}, {"0E-6177", -6176}, {"0E-6175", -6175}, {"0E6111", 6111}, {"0E6112", 6111}, {"0E6110", 6110}, {"0E6145", 6111}, {"0.000e-6170", -6173}, {"0.000e-6173", -6176}, {"0.000e-6174", -6176}, {"0.000e6114", 6111}, {"0.000e6115", 6111}, {"0.000e6113", 6110}, {".0e0", -1}, {"00.00e1", -1}, {"0." + noughts(280) + "e6391", 6111}, {"0." + noughts(280) + "e6390", 6110}, {"0." + noughts(280) + "e-5896", -6176}, {"0." + noughts(280) + "e-5895", -6175}, {noughts(280) + "e6111", 6111}, {noughts(280) + "e-6177", -6176},
		{"0E9999", 6111}, {"0E-9999", -6176}, {"0E10000", 6111}, {"0E-10001", -6176}, {"0e32768", 6111}, {"0e-32769", -6176}, {"0E65536", 6111}, {"0E-65536", -6176}, {"0e4294967296", 6111}, {"0e-4294967296", -6176}, {"0e18446744073709551616", 6111}, {"0e-18446744073709551616", -6176}, {"0e9223372036854775807", 6111}, {"0e-9223372036854775808", -6176}, {"0." + noughts(200) + "e99999999999999999999", 6111}, {"0e" + strings.Repeat("9", 290), 6111}, {"0e-" + strings.Repeat("9", 290), -6176},
	} {
		is(t, c.s, "0", c.exp)
	}
}

// Noughts ahead in an exponent do not count.
func TestParseOfLongExponents(t *testing.T) {
	for _, n := range []int{1, 4, 5, 20, 200, 290} {
		is(t, "1e"+noughts(n), "1", 0)
		is(t, "1e-"+noughts(n), "1", 0)
		is(t, "1e"+noughts(n)+"7", "1", 7)
		is(t, "1E+"+noughts(n)+"6111", "1", 6111)
		is(t, "1E-"+noughts(n)+"6176", "1", -6176)
		isNone(t, "1E"+noughts(n)+"6145", api.ErrNum)
		isNone(t, "1E-"+noughts(n)+"6177", api.ErrNum)
		isNone(t, "1E1"+noughts(n)+"6111", api.ErrNum)
		is(t, "0e1"+noughts(n)+"00000", "0", 6111)
		is(t, "0e-1"+noughts(n)+"00000", "0", -6176)
	}
}

// The sweep goes over each exponent at which digits come within the bounds, or leave them.
func TestParseAboutTheBounds(t *testing.T) {
	for _, digits := range []string{"0", "1", "10", "12", "1000", nines[1:], nines, tens, nines + "0", tens + "0", "1" + noughts(60), "1" + noughts(285), "." + noughts(285) + "1", "0." + noughts(150) + "1" + noughts(130), noughts(100) + "12." + noughts(150)} {
		for off := -330; off <= 330; off++ {
			for _, bound := range []int{-6176, 6111} {
				judges(t, digits+"e"+strconv.Itoa(bound+off))
				judges(t, "-"+digits+"E"+strconv.Itoa(bound+off))
			}
		}
	}
}

// Long digits bring back no exponent from where one is as good as another.
func TestParseFarOut(t *testing.T) {
	for _, digits := range []string{"0", "1", "." + noughts(289) + "1", "1" + noughts(289), "." + noughts(290), noughts(290)} {
		for _, exponent := range []int{6443, 6475, 9700, 9998, 9999, 10000, 10001, 10002, 10290, 16383, 16384, 32767, 32768, 65535, 65536, 99999} {
			judges(t, digits+"e"+strconv.Itoa(exponent))
			judges(t, "-"+digits+"e-"+strconv.Itoa(exponent))
		}
	}
}

func TestParseOf300Bytes(t *testing.T) {
	is(t, noughts(299), "0", 0)
	is(t, noughts(298)+"7", "7", 0)
	is(t, "7"+noughts(298), "7"+noughts(33), 265)
	is(t, "."+noughts(297)+"7", "7", -298)
	is(t, "7."+noughts(297), "7"+noughts(33), -33)
	is(t, "7e"+noughts(297), "7", 0)
	is(t, "7e-"+noughts(295)+"9", "7", -9)
	is(t, noughts(100)+"."+noughts(192)+"e+1234", "0", 1042)
	parses(t, noughts(300), joined(false, new(big.Int), 0))
	parses(t, noughts(299)+"7", joined(false, big.NewInt(7), 0))
	fails(t, strings.Repeat("9", 300), api.ErrNum)
	for _, n := range []int{301, 302, 500, 1 << 16, 1 << 20} {
		for _, s := range []string{"0", "7"} {
			fails(t, noughts(n-1)+s, api.ErrNum)
			fails(t, "-"+noughts(n-2)+s, api.ErrNum)
			fails(t, "+"+noughts(n-2)+s, api.ErrNum)
			fails(t, s+"."+noughts(n-2), api.ErrNum)
			fails(t, "."+noughts(n-2)+s, api.ErrNum)
			fails(t, s+noughts(n-2)+".", api.ErrNum)
			fails(t, s+"e"+noughts(n-2), api.ErrNum)
			fails(t, s+"E-"+noughts(n-4)+"1", api.ErrNum)
		}
	}
}

// R6: what is wrong in its form is ErrForm, however long it is.
func TestParseOfNoFormOfManyBytes(t *testing.T) {
	for _, n := range []int{299, 300, 301, 302, 1 << 16, 1 << 20} {
		for _, s := range []string{noughts(n-1) + "x", "x" + noughts(n-1), noughts(n-1) + "e", noughts(n-2) + "e+", noughts(n-1) + "-", "+-" + noughts(n-2), "." + noughts(n-2) + ".", "." + strings.Repeat("e", n-1), strings.Repeat(".", n), strings.Repeat("-", n), strings.Repeat("x", n), strings.Repeat("\xff", n), noughts(n-1) + " ", "NaN" + noughts(n-3), "Infinity" + noughts(n-8), "-" + strings.Repeat("Infinity", n/8), "1e" + noughts(n-3) + ".", "0e" + strings.Repeat("9", n-3) + "e"} {
			fails(t, s, api.ErrForm)
		}
	}
}

func TestParseOfDrawnTexts(t *testing.T) {
	rnd := rand.New(rand.NewSource(151))
	digits := func(most int, signs string) string {
		b := make([]byte, rnd.Intn(most+1))
		for i := range b {
			b[i] = signs[rnd.Intn(len(signs))]
		}
		return string(b)
	}
	for range 8000 {
		ones := digits(5, "0") + digits(20, "0123456789") + digits(12, "0")
		behind := digits(12, "0") + digits(20, "0123456789") + digits(5, "0")
		power := [...]int{rnd.Intn(80) - 40, rnd.Intn(200) - 6276, rnd.Intn(200) + 6011, rnd.Intn(20000) - 10000}[rnd.Intn(4)]
		judges(t, [...]string{"", "+", "-"}[rnd.Intn(3)]+ones+"."+behind)
		judges(t, [...]string{"", "+", "-"}[rnd.Intn(3)]+ones+[...]string{"", ".", "." + behind}[rnd.Intn(3)]+[...]string{"e", "E"}[rnd.Intn(2)]+strconv.Itoa(power))
		judges(t, digits(8, "+-.eE0123456789 NaIfinty\x00\xff"))
	}
}

// P15.3: Parse of Text

func TestParseOfText(t *testing.T) {
	for _, c := range texts {
		is(t, c.want, c.coef, c.exp)
	}
}

// Bits whatever they are, many of them with an exponent near 0 or with few digits.
func TestParseOfTextOfAnyBits(t *testing.T) {
	rnd := rand.New(rand.NewSource(152))
	for range 20000 {
		keeps(t, pair{rnd.Uint64(), rnd.Uint64()})
		keeps(t, pair{rnd.Uint64()&(sign|1<<49-1) | uint64(rnd.Intn(100)+6176-70)<<49, rnd.Uint64()})
		keeps(t, pair{rnd.Uint64()&sign | uint64(rnd.Intn(100)+6176-70)<<49, rnd.Uint64() >> rnd.Intn(64)})
		keeps(t, pair{rnd.Uint64()&sign | uint64(rnd.Intn(12288))<<49, rnd.Uint64() >> rnd.Intn(64)})
	}
}

// Every five bits behind the sign, with the others all 0, all 1 or mixed.
func TestParseOfTextOfEachForm(t *testing.T) {
	fills := []uint64{0, 1, all, 1 << 48, 1 << 49, 1<<49 - 1, 0x5555555555555555, 0xAAAAAAAAAAAAAAAA, 0x1ED09BEAD87C0, 0x378D8E63FFFFFFFF, 0x378D8E6400000000}
	for row := range uint64(64) {
		for _, high := range fills {
			for _, low := range fills {
				keeps(t, pair{row<<58 | high&(1<<58-1), low})
			}
		}
	}
}

func TestParseOfTextOfEachExponent(t *testing.T) {
	for exponent := range 12288 {
		for _, digits := range []string{"0", "1", nines} {
			keeps(t, joined(exponent%2 == 0, great(digits), exponent-6176))
		}
	}
}

// R5: what a refused call began is in no later answer.
func TestParseBehindARefusal(t *testing.T) {
	for _, wrong := range []string{"", "12x", "1e", "1E9999", noughts(301), nines + "9", "-NaN"} {
		if _, _, e := decit.Parse(wrong); e == api.OK {
			t.Errorf("Parse(%s) is no refusal", clipped(wrong))
		}
		parses(t, "1.5", joined(false, big.NewInt(15), -1))
		parses(t, "-0", joined(true, new(big.Int), 0))
		writes(t, joined(false, big.NewInt(15), -1), "1.5")
	}
}
