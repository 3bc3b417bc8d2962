package whole_test

import (
	"encoding/json"
	"fmt"
	"math"
	"math/big"
	"math/rand"
	"regexp"
	"strings"
	"testing"

	"propylon/whole"
)

// texts are numbers with their digits, written out.
var texts = []struct {
	v int64
	s string
}{
	{0, "0"}, {1, "1"}, {-1, "-1"}, {2, "2"}, {5, "5"}, {-5, "-5"}, {8, "8"}, {9, "9"}, {-9, "-9"}, {10, "10"}, {-10, "-10"}, {11, "11"}, {-11, "-11"}, {19, "19"}, {20, "20"}, {42, "42"}, {-42, "-42"},
	{99, "99"}, {-99, "-99"}, {100, "100"}, {-100, "-100"}, {101, "101"}, {-101, "-101"}, {999, "999"}, {1000, "1000"}, {-1000, "-1000"}, {1001, "1001"}, {127, "127"}, {128, "128"}, {-128, "-128"}, {-129, "-129"}, {255, "255"}, {256, "256"},
	{32767, "32767"}, {32768, "32768"}, {-32768, "-32768"}, {-32769, "-32769"}, {65535, "65535"}, {65536, "65536"}, {-65536, "-65536"}, {1234567890, "1234567890"}, {-1234567890, "-1234567890"}, {9876543210, "9876543210"}, {10203040506070809, "10203040506070809"},
	{2147483647, "2147483647"}, {2147483648, "2147483648"}, {-2147483647, "-2147483647"}, {-2147483648, "-2147483648"}, {-2147483649, "-2147483649"}, {4294967295, "4294967295"}, {4294967296, "4294967296"}, {-4294967295, "-4294967295"}, {-4294967296, "-4294967296"}, {-4294967297, "-4294967297"},
	{9007199254740991, "9007199254740991"}, {9007199254740992, "9007199254740992"}, {9007199254740993, "9007199254740993"}, {-9007199254740993, "-9007199254740993"},
	{999999999999999999, "999999999999999999"}, {1000000000000000000, "1000000000000000000"}, {1000000000000000001, "1000000000000000001"}, {-999999999999999999, "-999999999999999999"}, {-1000000000000000000, "-1000000000000000000"}, {-1000000000000000001, "-1000000000000000001"},
	{9000000000000000000, "9000000000000000000"}, {9223372036854775799, "9223372036854775799"}, {9223372036854775800, "9223372036854775800"}, {math.MaxInt64 - 1, "9223372036854775806"}, {math.MaxInt64, "9223372036854775807"},
	{-9000000000000000000, "-9000000000000000000"}, {-9223372036854775799, "-9223372036854775799"}, {-9223372036854775800, "-9223372036854775800"}, {math.MinInt64 + 2, "-9223372036854775806"}, {math.MinInt64 + 1, "-9223372036854775807"}, {math.MinInt64, "-9223372036854775808"},
}

// noTexts are the digits of no number of 64 bits: none, with noughts or a `+` ahead, too great or too far below 0, written otherwise, or with bytes that are no digits.
var noTexts = []string{
	"", "-", "--", "+", "-0", "-00", "00", "000", "01", "-01", "-001", "007", "010", "+0", "+1", "+-1", "-+1", "--1", "++1", "---1", "1-", "1+", "-1-", "1-1", "1+1", "0-0", "-1-1",
	"1e3", "1E3", "1e0", "1.", ".1", "1.0", "0.0", "-1.0", "1,000", "1_0", "1_000", "0_0", "_1", "1_", "-_1", "0x0", "0x1", "0X1", "0x10", "-0x1", "0b1", "0o7", "1n", "x", "a", "A", "1a", "a1", "f", "ff", "nan", "inf", "-inf", "NaN", "Infinity", "-Infinity",
	" ", " 0", "0 ", " 1", "1 ", "1 2", "- 1", " -1", "-1 ", "- ", "\t1", "1\t", "1\n", "\n1", "1\r\n", "\n", "1\v", "/", ":", "1/", "/1", "1:", ":1", "1/1", "1:1", "-/", "-:", "-/1", "-:1", "-1/", "-1:", ";", ".", ",", "'1'", `"1"`, "(1)", "1;",
	"\x00", "0\x00", "\x000", "1\x00", "\x001", "1\x002", "-\x00", "-\x001", "-1\x00", "\x01", "\x09", "\x10", "\x7f",
	"\x80", "\xb0", "\xb1", "1\xb9", "\xb91", "1\xb92", "-\xb1", "\xaf", "\xba", "\xad1", "\xff", "1\xff", "\xff1", "1\xff1", "\xc2\xb9", "\u0660", "\u0661", "1\u0662", "-\u0661", "\u0967", "\uff10", "\uff11", "\uff0d1", "\u00b2", "\u2460", "\u2081", "1\u0301", "\U0001D7CE", "\U0001D7CF", "\xef\xbb\xbf1", "\u00a01", "1\u00a0", "\u22121", "\u00ad1", "\u20131",
	"9223372036854775808", "9223372036854775809", "9223372036854775810", "9223372036854775817", "9223372036854775899", "9223372036854776000", "9230000000000000000", "9300000000000000000", "9999999999999999999", "+9223372036854775807", "09223372036854775807", "9223372036854775807 ", "9223372036854775807a", "a223372036854775807", "92233720 6854775807",
	"-9223372036854775809", "-9223372036854775810", "-9223372036854775811", "-9223372036854775818", "-9223372036854775900", "-9223372036854776000", "-9230000000000000000", "-9300000000000000000", "-9999999999999999999", "--9223372036854775808", "-09223372036854775808", "-9223372036854775808 ", "-9223372036854775808a",
	"10000000000000000000", "-10000000000000000000", "18446744073709551614", "18446744073709551615", "18446744073709551616", "18446744073709551617", "18446744073709551618", "18446744073709551626", "-18446744073709551614", "-18446744073709551615", "-18446744073709551616", "-18446744073709551617", "-18446744073709551626",
	"27670116110564327423", "27670116110564327424", "36893488147419103232", "36893488147419103233", "-36893488147419103233", "92233720368547758060", "92233720368547758070", "92233720368547758071", "92233720368547758079", "92233720368547758080", "-92233720368547758080", "-92233720368547758081", "99999999999999999999", "-99999999999999999999", "100000000000000000000",
	"184467440737095516160", "184467440737095516161", "-184467440737095516161", "340282366920938463463374607431768211456", "340282366920938463463374607431768211457", "-340282366920938463463374607431768211457", "115792089237316195423570985008687907853269984665640564039457584007913129639937",
	"00000000000000000000", "00000000000000000001", "-0000000000000000001", "0000000000000000001", "000000000000000000000",
	strings.Repeat("9", 20), strings.Repeat("1", 20), "-" + strings.Repeat("1", 20), strings.Repeat("9", 1000), "1" + strings.Repeat("0", 64), "1" + strings.Repeat("0", 1<<16), "-1" + strings.Repeat("0", 1<<16), strings.Repeat("0", 1<<16), strings.Repeat("0", 1<<16) + "1", "-" + strings.Repeat("0", 1<<16) + "1", strings.Repeat("7", 1<<20), strings.Repeat("-", 1<<16), strings.Repeat("-", 1<<16) + "1", strings.Repeat("\xff", 1<<16), strings.Repeat(" ", 20), strings.Repeat(" ", 1<<16) + "1", "1" + strings.Repeat(" ", 1<<16), "1" + strings.Repeat("\x00", 1<<16),
}

// lexemes are texts with what they are, written out.
var lexemes = []struct {
	s    string
	want int
}{
	{"0", whole.Int}, {"-0", whole.Int}, {"1", whole.Int}, {"-1", whole.Int}, {"7", whole.Int}, {"9", whole.Int}, {"-9", whole.Int}, {"10", whole.Int}, {"-10", whole.Int}, {"100", whole.Int}, {"1000000", whole.Int}, {"-42", whole.Int}, {"1234567890", whole.Int}, {"-9876543210", whole.Int},
	{"9223372036854775807", whole.Int}, {"9223372036854775808", whole.Int}, {"-9223372036854775808", whole.Int}, {"-9223372036854775809", whole.Int}, {"18446744073709551616", whole.Int}, {"-123456789012345678901234567890", whole.Int},
	{"1.0", whole.Frac}, {"0.0", whole.Frac}, {"-0.0", whole.Frac}, {"0.1", whole.Frac}, {"-0.1", whole.Frac}, {"1.5", whole.Frac}, {"10.01", whole.Frac}, {"0.00", whole.Frac}, {"0.09", whole.Frac}, {"100.000", whole.Frac}, {"-12.34", whole.Frac}, {"9.9", whole.Frac},
	{"1e5", whole.Frac}, {"1E5", whole.Frac}, {"1e+5", whole.Frac}, {"1e-5", whole.Frac}, {"1E+5", whole.Frac}, {"1E-5", whole.Frac}, {"1e05", whole.Frac}, {"1e00", whole.Frac}, {"1e+05", whole.Frac}, {"1e-007", whole.Frac}, {"0e0", whole.Frac}, {"-0e0", whole.Frac}, {"0E-0", whole.Frac}, {"0e9", whole.Frac}, {"10e10", whole.Frac}, {"-1e5", whole.Frac}, {"1e999999999999999999999", whole.Frac},
	{"1.0e5", whole.Frac}, {"-1.5E-07", whole.Frac}, {"1.5e10", whole.Frac}, {"0.0e0", whole.Frac}, {"-0.0E+0", whole.Frac}, {"-1.0E+00", whole.Frac}, {"9.9e9", whole.Frac}, {"100.001e100", whole.Frac},

	{"", whole.None}, {"-", whole.None}, {"+", whole.None}, {".", whole.None}, {"e", whole.None}, {"E", whole.None}, {"--", whole.None}, {"-.", whole.None}, {"-e", whole.None}, {".e", whole.None}, {"e-", whole.None}, {"-.e", whole.None}, {"-.e-", whole.None}, {"..", whole.None}, {"ee", whole.None},
	{"00", whole.None}, {"000", whole.None}, {"01", whole.None}, {"-00", whole.None}, {"-01", whole.None}, {"09", whole.None}, {"00.0", whole.None}, {"01.5", whole.None}, {"-01.5", whole.None}, {"00e0", whole.None}, {"01e5", whole.None}, {"0x10", whole.None}, {"0b1", whole.None}, {"0_1", whole.None}, {"1_000", whole.None}, {"1,5", whole.None}, {"1,000", whole.None},
	{"+0", whole.None}, {"+1", whole.None}, {"+1.5", whole.None}, {"+1e5", whole.None}, {"--0", whole.None}, {"--1", whole.None}, {"-+1", whole.None}, {"+-1", whole.None}, {"++1", whole.None}, {"1-", whole.None}, {"1+", whole.None}, {"1-1", whole.None}, {"1+1", whole.None}, {"- 1", whole.None}, {"-a", whole.None},
	{"1.", whole.None}, {"0.", whole.None}, {"-0.", whole.None}, {"-1.", whole.None}, {".1", whole.None}, {".0", whole.None}, {"-.1", whole.None}, {"1..0", whole.None}, {"1.0.0", whole.None}, {"1.0.", whole.None}, {".1.0", whole.None}, {"1.-0", whole.None}, {"1.+0", whole.None}, {"1.0-", whole.None}, {"1.5a", whole.None}, {"1.a", whole.None}, {"1. 5", whole.None},
	{"1e", whole.None}, {"1E", whole.None}, {"0e", whole.None}, {"1e+", whole.None}, {"1e-", whole.None}, {"1E+", whole.None}, {"1E-", whole.None}, {"e5", whole.None}, {"E5", whole.None}, {"-e5", whole.None}, {"+e5", whole.None}, {"1ee5", whole.None}, {"1eE5", whole.None}, {"1Ee5", whole.None}, {"1e5e5", whole.None}, {"1e5E5", whole.None}, {"1E5e5", whole.None}, {"1e5e", whole.None}, {"1e5E", whole.None},
	{"1e5.0", whole.None}, {"1e5.", whole.None}, {"1e.5", whole.None}, {"1e.", whole.None}, {"1.5e5.5", whole.None}, {"1e+-5", whole.None}, {"1e-+5", whole.None}, {"1e++5", whole.None}, {"1e--5", whole.None}, {"1e5+", whole.None}, {"1e5-", whole.None}, {"1e5-5", whole.None}, {"1e+5+5", whole.None}, {"1+e5", whole.None}, {"1-e5", whole.None}, {"1ea", whole.None}, {"1e5a", whole.None}, {"1e 5", whole.None}, {"1e0x5", whole.None}, {"1e1_0", whole.None},
	{"1.e5", whole.None}, {"0.e5", whole.None}, {".e5", whole.None}, {"-.e5", whole.None}, {".5e5", whole.None}, {"-.5e5", whole.None}, {"1.5e", whole.None}, {"1.5e+", whole.None}, {"1.5E-", whole.None}, {"1.e", whole.None}, {"1.5.e5", whole.None}, {"1.5e.5", whole.None}, {"1.+e5", whole.None},
	{" ", whole.None}, {" 1", whole.None}, {"1 ", whole.None}, {"1 1", whole.None}, {"\t1", whole.None}, {"1\n", whole.None}, {"\r1", whole.None}, {"1\v", whole.None}, {"1\x00", whole.None}, {"\x001", whole.None}, {"1\x001", whole.None}, {"\x00", whole.None}, {"\x80", whole.None}, {"1\x80", whole.None}, {"\x801", whole.None}, {"1\xff", whole.None}, {"\xff1", whole.None}, {"\xb1", whole.None}, {"1\xe55", whole.None}, {"1\xc55", whole.None}, {"1\xae5", whole.None}, {"\xad1", whole.None}, {"1e\xab5", whole.None},
	{"NaN", whole.None}, {"Infinity", whole.None}, {"-Infinity", whole.None}, {"inf", whole.None}, {"null", whole.None}, {"true", whole.None}, {"a", whole.None}, {"1a", whole.None}, {"1f", whole.None}, {"1d5", whole.None}, {"1D5", whole.None}, {"1F5", whole.None}, {"0x1p5", whole.None}, {"1p5", whole.None}, {"1n", whole.None}, {"1:", whole.None}, {"1/", whole.None}, {"/1", whole.None}, {":1", whole.None}, {"/", whole.None}, {":", whole.None}, {"1./", whole.None}, {"1.:", whole.None}, {"1e/", whole.None}, {"1e:", whole.None}, {"[1]", whole.None}, {`"1"`, whole.None},
	{"\u0661", whole.None}, {"1\u0661", whole.None}, {"1.\u0661", whole.None}, {"1e\u0661", whole.None}, {"\uff11", whole.None}, {"\u22121", whole.None}, {"1\uff0e5", whole.None}, {"1\uff455", whole.None}, {"\xef\xbb\xbf1", whole.None}, {"1\u00a0", whole.None}, {"\U0001D7CF", whole.None}, {"1\u0435" + "5", whole.None},
}

// strangers stand ahead of, behind and within texts: blanks, letters, digits, signs, bytes beyond 127, and some of each together.
var strangers = []string{
	" ", "\t", "\n", "\r", "\x00", "a", "e", "E", "f", "x", "N", "_", "0", "1", "9", "00", "10", "-", "+", ".", ",", "/", ":", "\"", "\x7f", "\x80", "\xb1", "\xe5", "\xff", "\u0661", "\u00a0", "\u2212", ".5", "e5", "E-5", ".e", "e.", "-1", "+1", "--", "e+", "e-", "1.5e5", "1 ",
}

// number says by an expression, not by parts, which texts are numbers of JSON; its groups are what makes one a Frac.
var number = regexp.MustCompile(`\A-?(?:0|[1-9][0-9]*)(\.[0-9]+)?([eE][-+]?[0-9]+)?\z`)

// decimal says by an expression which texts look like a Text; their numbers may be too great.
var decimal = regexp.MustCompile(`\A(?:0|-?[1-9][0-9]*)\z`)

// cut keeps what a test tells short.
func cut(s string) string {
	if len(s) > 120 {
		return s[:120] + fmt.Sprintf(".. (%d bytes)", len(s))
	}
	return s
}

func one(c int) string {
	return string([]byte{byte(c)})
}

func writes(t *testing.T, v int64, want string) {
	t.Helper()
	if s := whole.Text(v); s != want {
		t.Errorf("Text(%d): %q, not %q", v, cut(s), want)
	}
}

func reads(t *testing.T, s string, want int64) {
	t.Helper()
	if v, ok := whole.Parse(s); v != want || !ok {
		t.Errorf("Parse(%q): %d, %v, not %d, true", cut(s), v, ok, want)
	}
}

// refuses also holds R2: with false there is 0.
func refuses(t *testing.T, s string) {
	t.Helper()
	if v, ok := whole.Parse(s); v != 0 || ok {
		t.Errorf("Parse(%q): %d, %v, not 0, false", cut(s), v, ok)
	}
}

func isA(t *testing.T, s string, want int) {
	t.Helper()
	if kind := whole.Lexeme(s); kind != want {
		t.Errorf("Lexeme(%q): %d, not %d", cut(s), kind, want)
	}
}

// kindOf is what s is by the expression.
func kindOf(s string) int {
	groups := number.FindStringSubmatch(s)
	switch {
	case groups == nil:
		return whole.None
	case groups[1] != "" || groups[2] != "":
		return whole.Frac
	}
	return whole.Int
}

// judges reads s or refuses it, and says what it is, as its shape and its number without a bound say; what is read must have just the text s, and be an Int.
func judges(t *testing.T, s string) {
	t.Helper()
	isA(t, s, kindOf(s))
	if !decimal.MatchString(s) {
		refuses(t, s)
		return
	}
	n, _ := new(big.Int).SetString(s, 10)
	if !n.IsInt64() {
		refuses(t, s)
		return
	}
	reads(t, s, n.Int64())
	writes(t, n.Int64(), s)
	isA(t, s, whole.Int)
}

// comesBack writes a number and reads its text.
func comesBack(t *testing.T, v int64) {
	t.Helper()
	s := big.NewInt(v).String()
	writes(t, v, s)
	reads(t, whole.Text(v), v)
	isA(t, whole.Text(v), whole.Int)
}

// drawn is a number of any length, half of the time of many equal bits.
func drawn(rnd *rand.Rand) int64 {
	v := int64(rnd.Uint64())
	if rnd.Intn(2) == 0 {
		v |= -int64(rnd.Intn(2)) << rnd.Intn(64)
	}
	return v >> rnd.Intn(64)
}

// woven are n bytes of those that a number has, seldom others, so that some are numbers.
func woven(rnd *rand.Rand, n int) string {
	b := make([]byte, n)
	for i := range b {
		b[i] = "0012345679999.-+eE"[rnd.Intn(18)]
		if rnd.Intn(100) == 0 {
			b[i] = byte(rnd.Intn(256))
		}
	}
	return string(b)
}

// P10.1: Text

func TestTextAtEdges(t *testing.T) {
	for _, c := range texts {
		writes(t, c.v, c.s)
	}
}

func TestTextOfSmallNumbers(t *testing.T) {
	for v := int64(-70000); v <= 70000; v++ {
		comesBack(t, v)
	}
}

// A power of 10, with either sign, the numbers around it and those around some of its multiples.
func TestTextAroundEachPowerOfTen(t *testing.T) {
	power := int64(1)
	noughts := ""
	for range 19 {
		writes(t, power, "1"+noughts)
		writes(t, -power, "-1"+noughts)
		for times := int64(1); times <= 9; times++ {
			for d := int64(-3); d <= 3; d++ {
				comesBack(t, times*power+d)
				comesBack(t, -(times*power + d))
			}
		}
		power, noughts = power*10, noughts+"0"
	}
}

func TestTextOfOneLessThanEachPowerOfTen(t *testing.T) {
	power := int64(10)
	nines := "9"
	for range 18 {
		writes(t, power-1, nines)
		writes(t, 1-power, "-"+nines)
		power, nines = power*10, nines+"9"
	}
}

func TestTextAroundEachPowerOfTwo(t *testing.T) {
	for k := range 64 {
		for d := int64(-12); d <= 12; d++ {
			comesBack(t, int64(uint64(1)<<k)+d)
			comesBack(t, -int64(uint64(1)<<k)+d)
		}
	}
}

func TestTextAroundTheBounds(t *testing.T) {
	for d := range int64(2000) {
		comesBack(t, math.MinInt64+d)
		comesBack(t, math.MaxInt64-d)
	}
}

// P10.1: Parse

func TestParseAtEdges(t *testing.T) {
	for _, c := range texts {
		reads(t, c.s, c.v)
		reads(t, string([]byte(c.s)), c.v)
	}
}

func TestParseOfNoTexts(t *testing.T) {
	for _, s := range noTexts {
		refuses(t, s)
	}
}

// A text with the other sign, or with noughts ahead, is that of another number, or of none.
func TestParseOfOtherSigns(t *testing.T) {
	for _, c := range texts {
		digits := strings.TrimPrefix(c.s, "-")
		refuses(t, "+"+digits)
		refuses(t, "--"+digits)
		refuses(t, "+"+c.s)
		refuses(t, "0"+c.s)
		refuses(t, "-0"+digits)
		refuses(t, "00"+digits)
		if c.v != 0 && c.v != math.MinInt64 {
			reads(t, whole.Text(-c.v), -c.v)
		}
	}
	refuses(t, "-0")
	refuses(t, "9223372036854775808")
}

// What is wrong stands ahead of a text, behind it and at every place between.
func TestParseOfTextsWithMore(t *testing.T) {
	for _, c := range texts {
		for _, more := range strangers {
			for at := range len(c.s) + 1 {
				judges(t, c.s[:at]+more+c.s[at:])
			}
		}
	}
}

func TestParseOfEveryByteAtEveryPlace(t *testing.T) {
	for _, good := range []string{"0", "7", "-1", "10", "-90", "907", "-1000000000000000000", "1000000000000000000", "9223372036854775807", "-9223372036854775807", "-9223372036854775808"} {
		judges(t, good)
		for at := range len(good) {
			judges(t, good[:at]+good[at+1:])
			for c := range 256 {
				judges(t, good[:at]+one(c)+good[at+1:])
				judges(t, good[:at]+one(c)+good[at:])
			}
		}
		for c := range 256 {
			judges(t, good+one(c))
		}
	}
}

// Numbers around the multiples of 2^64: modulo it they are small.
func TestParseOfNumbersBeyond(t *testing.T) {
	for k := uint(63); k <= 200; k++ {
		for times := int64(-5); times <= 5; times++ {
			middle := new(big.Int).Mul(new(big.Int).Lsh(big.NewInt(1), k), big.NewInt(times))
			for d := int64(-20); d <= 20; d++ {
				judges(t, new(big.Int).Add(middle, big.NewInt(d)).String())
			}
		}
	}
}

func TestParseAroundTheBounds(t *testing.T) {
	for _, bound := range []int64{math.MinInt64, math.MaxInt64} {
		for d := int64(-2000); d <= 2000; d++ {
			judges(t, new(big.Int).Add(big.NewInt(bound), big.NewInt(d)).String())
		}
	}
}

// A bound's text with one digit more, in every place.
func TestParseOfOneDigitMore(t *testing.T) {
	for _, s := range []string{"9223372036854775807", "9223372036854775808", "1000000000000000000", "9999999999999999999"} {
		for _, sign := range []string{"", "-"} {
			for at := range len(s) + 1 {
				for c := '0'; c <= '9'; c++ {
					longer := sign + s[:at] + string(c) + s[at:]
					refuses(t, longer)
					judges(t, longer)
				}
			}
		}
	}
}

// A Text is read as the same number, and what is read has just that Text.
func TestParseOfTextIsTheNumber(t *testing.T) {
	rnd := rand.New(rand.NewSource(101))
	for range 50000 {
		comesBack(t, drawn(rnd))
	}
	for range 50000 {
		digits := make([]byte, rnd.Intn(23))
		for i := range digits {
			digits[i] = "0123456789"[rnd.Intn(10)]
		}
		judges(t, string(digits))
		judges(t, "-"+string(digits))
	}
}

// P10.2: Lexeme

func TestKinds(t *testing.T) {
	if whole.None != 0 || whole.Int != 1 || whole.Frac != 2 {
		t.Errorf("None %d, Int %d, Frac %d", whole.None, whole.Int, whole.Frac)
	}
}

func TestLexemeAtEdges(t *testing.T) {
	for _, c := range lexemes {
		isA(t, c.s, c.want)
		isA(t, string([]byte(c.s)), c.want)
		judges(t, c.s)
	}
}

func TestLexemeOfEachByte(t *testing.T) {
	for c := range 256 {
		want := whole.None
		if strings.Contains("0123456789", one(c)) {
			want = whole.Int
		}
		isA(t, one(c), want)
	}
}

func TestLexemeOfEachTwoBytes(t *testing.T) {
	for high := range 256 {
		for low := range 256 {
			judges(t, one(high)+one(low))
		}
	}
}

// Every text of up to six of the bytes that a number has, and of one that is none of these, by the expression and by the standard library.
func TestLexemeOfEachShortText(t *testing.T) {
	row := []string{""}
	for range 6 {
		var longer []string
		for _, s := range row {
			for _, c := range "-+01.eEx" {
				longer = append(longer, s+string(c))
			}
		}
		for _, s := range longer {
			isA(t, s, kindOf(s))
			if taken := whole.Lexeme(s) != whole.None; taken != json.Valid([]byte(s)) {
				t.Errorf("Lexeme(%q) is a number: %v", s, taken)
			}
		}
		row = longer
	}
}

func TestShortTextsWithOtherStrangers(t *testing.T) {
	for _, stranger := range []string{"\x00", " ", "/", ":", "_", "\x80", "\xff"} {
		signs := []string{"-", "+", "0", "9", ".", "e", "E", stranger}
		for n := range 1 << 12 {
			judges(t, signs[n>>9]+signs[n>>6&7]+signs[n>>3&7]+signs[n&7])
		}
	}
}

// A blank, a letter, a digit, a byte beyond 127 and others ahead, behind and at every place between.
func TestLexemeOfTextsWithMore(t *testing.T) {
	for _, c := range lexemes {
		for _, more := range strangers {
			for at := range len(c.s) + 1 {
				judges(t, c.s[:at]+more+c.s[at:])
			}
		}
	}
}

func TestLexemeOfEveryByteAtEveryPlace(t *testing.T) {
	for _, c := range lexemes {
		for at := range len(c.s) {
			judges(t, c.s[:at]+c.s[at+1:])
			for v := range 256 {
				isA(t, c.s[:at]+one(v)+c.s[at+1:], kindOf(c.s[:at]+one(v)+c.s[at+1:]))
			}
		}
	}
}

// One more byte behind a number: a digit leaves it what it is, but behind a lone nought; all else but what may follow ends it.
func TestOneByteBehind(t *testing.T) {
	for _, c := range lexemes {
		if c.want == whole.None {
			continue
		}
		for v := range 256 {
			want := whole.None
			if '0' <= v && v <= '9' && c.s != "0" && c.s != "-0" {
				want = c.want
			}
			isA(t, c.s+one(v), want)
		}
	}
}

// One more byte ahead of a number: a digit from 1 on, or a `-` that is the only one, leaves it what it is; nothing else does.
func TestOneByteAhead(t *testing.T) {
	for _, c := range lexemes {
		if c.want == whole.None {
			continue
		}
		for v := range 256 {
			want := whole.None
			if c.s[0] != '-' && ('1' <= v && v <= '9' || v == '-') {
				want = c.want
			}
			isA(t, one(v)+c.s, want)
		}
	}
}

// Behind what asks for a digit, or may have one more, a digit makes a Frac; nothing else does.
func TestOneDigitBehind(t *testing.T) {
	for v := range 256 {
		for _, c := range []string{"0.", "-0.", "10.", "0e", "10E", "1e+", "1E-", "0.0e", "-1.5E", "0.1e-", "-10.01E+", "1.5", "1e5", "1e-0"} {
			want := whole.None
			if '0' <= v && v <= '9' {
				want = whole.Frac
			}
			isA(t, c+one(v), want)
		}
	}
}

// Digits by the thousand in each place, alone and with something wrong at their begin, in their midst and at their end.
func TestLexemeOfManyDigits(t *testing.T) {
	for _, many := range []string{strings.Repeat("7", 5000), strings.Repeat("0", 5000), "1" + strings.Repeat("0", 4999), strings.Repeat("9876543210", 1000)} {
		ones := whole.Int
		if many[0] == '0' {
			ones = whole.None
		}
		isA(t, many, ones)
		isA(t, "-"+many, ones)
		isA(t, "0."+many, whole.Frac)
		isA(t, "-1."+many, whole.Frac)
		isA(t, "1e"+many, whole.Frac)
		isA(t, "1E+"+many, whole.Frac)
		isA(t, "0e-"+many, whole.Frac)
		isA(t, "-2."+many+"E-"+many, whole.Frac)
		if ones == whole.Int {
			isA(t, many+"."+many, whole.Frac)
			isA(t, many+"e"+many, whole.Frac)
			isA(t, "-"+many+"."+many+"e+"+many, whole.Frac)
		}
		for _, wrong := range []string{"a", " ", "\x00", "\x80", "\xff", ".", "e", "-", "+", "/", ":", "\u0661"} {
			broken := []string{wrong + many, many[:2500] + wrong + many[2500:], many + wrong}
			for _, s := range broken {
				for _, ahead := range []string{"", "-", "0.", "1e", "-1E+", "1.5e-"} {
					judges(t, ahead+s)
					judges(t, ahead+s+".5")
					judges(t, ahead+s+"e5")
				}
			}
		}
	}
}

func TestLexemeOfVeryLongTexts(t *testing.T) {
	for _, part := range []string{"7", "0", "-", "+", ".", "e", "E", "1.", "1e", "1.5e5", " ", "\x00", "\xff"} {
		many := strings.Repeat(part, 1<<20)
		want := whole.None
		if part == "7" {
			want = whole.Int
		}
		isA(t, many, want)
		refuses(t, many)
	}
	many := strings.Repeat("0", 1<<20)
	isA(t, "-5."+many+"E-"+many, whole.Frac)
	isA(t, "-5."+many+"E-"+many+"x", whole.None)
}

// What is drawn is judged by the expression; the bytes of a number come often, so that some are numbers.
func TestLexemeOfAny(t *testing.T) {
	rnd := rand.New(rand.NewSource(102))
	found := [3]int{}
	for range 200000 {
		s := woven(rnd, rnd.Intn(14))
		judges(t, s)
		found[kindOf(s)]++
	}
	for range 50000 {
		b := make([]byte, rnd.Intn(30))
		rnd.Read(b)
		judges(t, string(b))
	}
	if min(found[whole.None], found[whole.Int], found[whole.Frac]) < 1000 {
		t.Errorf("too few of one kind were tried: %v", found)
	}
}

// Each number of JSON that is put together from its parts is taken, as the parts say.
func TestLexemeOfEachJoinOfParts(t *testing.T) {
	for _, sign := range []string{"", "-"} {
		for _, ones := range []string{"0", "1", "5", "9", "10", "90", "12345678901234567890"} {
			for _, parts := range []string{"", ".0", ".5", ".00", ".050", ".12345678901234567890"} {
				for _, exponent := range []string{"", "e0", "E0", "e+0", "e-0", "E+00", "E-00", "e5", "E05", "e-05", "e+308", "E-12345678901234567890"} {
					want := whole.Int
					if parts+exponent != "" {
						want = whole.Frac
					}
					s := sign + ones + parts + exponent
					isA(t, s, want)
					isA(t, "+"+s, whole.None)
					isA(t, "-"+"-"+s, whole.None)
					isA(t, "0"+sign+ones+parts+exponent, whole.None)
					isA(t, sign+"0"+ones+parts+exponent, whole.None)
					isA(t, sign+parts+exponent, whole.None)
					isA(t, sign+ones+"."+exponent, whole.None)
					isA(t, sign+ones+parts+"e", whole.None)
					isA(t, sign+ones+parts+"E+", whole.None)
					isA(t, sign+ones+parts+"e-", whole.None)
				}
			}
		}
	}
}

// R5: what a refused call began is in no later answer.
func TestCallsBehindARefusal(t *testing.T) {
	for _, wrong := range []string{"", "-", "12x", "00", "1e", "-9223372036854775809", "9223372036854775808", strings.Repeat("9", 100)} {
		refuses(t, wrong)
		whole.Lexeme(wrong)
		reads(t, "0", 0)
		reads(t, "-17", -17)
		writes(t, 0, "0")
		writes(t, math.MinInt64, "-9223372036854775808")
		isA(t, "-0", whole.Int)
		isA(t, "1e5", whole.Frac)
	}
}
