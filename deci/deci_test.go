package deci_test

import (
	"fmt"
	"math"
	"math/big"
	"math/rand"
	"slices"
	"strconv"
	"strings"
	"testing"

	"propylon/api"
	"propylon/deci"
)

const (
	sign = 1 << 63
	all  = 1<<64 - 1

	// mostHigh and mostLow are 10^34 less 1, the greatest coefficient; nineHigh is high of it times 10 to the 6111.
	mostHigh = 0x1ED09BEAD87C0
	mostLow  = 0x378D8E63FFFFFFFF
	nineHigh = 0x5FFFED09BEAD87C0
)

// tenTo34 is 10^34 by its digits, so that no bound of the package is believed.
var tenTo34 = great("1" + strings.Repeat("0", 34))

// coefs are coefficients that there are: the edges, and ones with high, or low, or one bit of them alone.
var coefs = []api.Wide{
	{}, {Low: 1}, {Low: 2}, {Low: 9}, {Low: 10}, {Low: 12345}, {Low: 1 << 63}, {Low: all - 1}, {Low: all},
	{High: 1}, {High: 1, Low: 1}, {High: 1, Low: all}, {High: 2}, {High: 0x5555555555555 >> 4, Low: 0xAAAAAAAAAAAAAAAA}, {High: 1 << 40, Low: 7}, {High: 1 << 48}, {High: 1<<48 - 1, Low: all}, {High: 1<<48 + 1, Low: 0x123456789ABCDEF0}, {High: mostHigh - 1}, {High: mostHigh - 1, Low: all}, {High: mostHigh}, {High: mostHigh, Low: 1}, {High: mostHigh, Low: mostLow - 1}, {High: mostHigh, Low: mostLow},
}

// over are numbers of 113 bits that are past every coefficient.
var over = []api.Wide{
	{High: mostHigh, Low: mostLow + 1}, {High: mostHigh, Low: mostLow + 2}, {High: mostHigh, Low: 1 << 63}, {High: mostHigh, Low: all}, {High: mostHigh + 1}, {High: mostHigh + 1, Low: mostLow}, {High: mostHigh | 1<<11}, {High: 0x1F << 44}, {High: 1<<49 - 1}, {High: 1<<49 - 1, Low: all - 1}, {High: 1<<49 - 1, Low: all},
}

// farOver have more bits than the form has room for; cut to 113 bits, most of them would be a coefficient.
var farOver = []api.Wide{
	{High: 1 << 49}, {High: 1 << 49, Low: 1}, {High: 1<<49 | 5, Low: 7}, {High: 1<<49 | mostHigh, Low: mostLow}, {High: 1<<50 - 1, Low: all}, {High: 1 << 50}, {High: 1 << 53, Low: 1}, {High: 1<<58 + 1}, {High: 1 << 62, Low: 2}, {High: 1<<63 - 1, Low: all}, {High: 1 << 63}, {High: 1 << 63, Low: 1}, {High: all}, {High: all, Low: all - 1}, {High: all, Low: all},
}

// exponents are such ones as a form holds, ahead of 6176: those at an end, in the midst, at a power of 2 and with bits in each place.
var exponents = []uint64{0, 1, 2, 3, 4095, 4096, 4097, 5461, 6143, 6144, 6175, 6176, 6177, 8190, 8191, 8192, 8193, 10922, 12285, 12286, 12287}

// exps are those that there are.
var exps = []int{-6176, -6175, -6174, -4097, -4096, -2081, -2080, -1000, -34, -2, -1, 0, 1, 2, 33, 34, 35, 1000, 2014, 2015, 2016, 4095, 4096, 6109, 6110, 6111}

// farExps are those that there are not: beside the bounds, where the exponent would fill bits too many, where a sum goes round, and at the ends of int and of int32.
var farExps = []int{
	-6177, -6178, -6200, -8192, -12288, -16384, -22560, -32769, -65536, math.MinInt32 - 1, math.MinInt32, math.MinInt32 + 1, math.MinInt32 + 6176, -1 << 32, -1<<32 - 6176, -1 << 49, -1 << 50, -1 << 62, math.MinInt + 6176, math.MinInt + 6175, math.MinInt + 6111, math.MinInt + 1, math.MinInt,
	6112, 6113, 6144, 6176, 8191, 8192, 10207, 10208, 10209, 12287, 12288, 16383, 16384, 22560, 26592, 32767, 65536, math.MaxInt32 - 6176, math.MaxInt32, math.MaxInt32 + 1, 1 << 32, 1<<32 - 6176, 1 << 49, 1 << 50, 1 << 62, math.MaxInt - 6176, math.MaxInt - 6175, math.MaxInt - 1, math.MaxInt,
}

// fills are bits of 64 that are all 0, all 1, or mixed.
var fills = []uint64{0, all, 1, 1 << 47, 1 << 48, 1 << 49, 1 << 57, 1 << 63, 0x5555555555555555, 0xAAAAAAAAAAAAAAAA, 0x0123456789ABCDEF, 0xFEDCBA9876543210, 0x3243F6A8885A308D, mostHigh, mostLow, mostLow + 1, 1<<49 - 1}

// pair are the bits of one decimal.
type pair struct {
	high, low uint64
}

// parts are what Split tells.
type parts struct {
	kind int
	neg  bool
	coef api.Wide
	exp  int
}

// great reads a number without a bound.
func great(digits string) *big.Int {
	n, ok := new(big.Int).SetString(digits, 10)
	if !ok {
		panic(digits)
	}
	return n
}

// number is a Wide as a number without a bound.
func number(a api.Wide) *big.Int {
	n := new(big.Int).SetUint64(a.High)
	n.Lsh(n, 64)
	return n.Add(n, new(big.Int).SetUint64(a.Low))
}

// wideOf is a number below 2^128 as a Wide.
func wideOf(n *big.Int) api.Wide {
	low := new(big.Int).And(n, new(big.Int).SetUint64(all))
	return api.Wide{High: new(big.Int).Rsh(n, 64).Uint64(), Low: low.Uint64()}
}

// binary reads binary digits.
func binary(digits string) *big.Int {
	n, ok := new(big.Int).SetString(digits, 2)
	if !ok {
		panic(digits)
	}
	return n
}

// told goes by the chapter's sentence, with the 128 binary digits.
func told(high, low uint64) parts {
	s := fmt.Sprintf("%064b%064b", high, low)
	neg := s[0] == '1'
	switch {
	case s[1:6] == "11111":
		return parts{deci.NaN, neg, api.Wide{}, 0}
	case s[1:6] == "11110":
		return parts{deci.Inf, neg, api.Wide{}, 0}
	case s[1:3] == "11":
		return parts{deci.Finite, neg, api.Wide{}, int(binary(s[3:17]).Int64()) - 6176}
	}
	coef := binary(s[15:])
	if coef.Cmp(tenTo34) >= 0 {
		coef = new(big.Int)
	}
	return parts{deci.Finite, neg, wideOf(coef), int(binary(s[1:15]).Int64()) - 6176}
}

// joined lays the binary digits of the second form one behind the other; it is false if there is no such number.
func joined(neg bool, coef api.Wide, exp int) (p pair, ok bool) {
	if number(coef).Cmp(tenTo34) >= 0 || exp < -6176 || exp > 6111 {
		return pair{}, false
	}
	s := "0"
	if neg {
		s = "1"
	}
	s += fmt.Sprintf("%014b%0113b", exp+6176, number(coef))
	bits := wideOf(binary(s))
	return pair{bits.High, bits.Low}, true
}

// plain goes by the chapter's sentence, with the two references alone.
func plain(high, low uint64) bool {
	digits := fmt.Sprintf("%016x%016x", high, low)
	noughts := strings.Repeat("00", 15)
	p := told(high, low)
	switch p.kind {
	case deci.NaN:
		return digits == "7c"+noughts
	case deci.Inf:
		return digits == "78"+noughts || digits == "f8"+noughts
	}
	again, ok := joined(p.neg, p.coef, p.exp)
	return ok && again == pair{high, low}
}

func splits(t *testing.T, high, low uint64, want parts) {
	t.Helper()
	kind, neg, coef, exp := deci.Split(high, low)
	if got := (parts{kind, neg, coef, exp}); got != want {
		t.Errorf("Split(%016x, %016x): %v, not %v", high, low, got, want)
	}
}

func joins(t *testing.T, neg bool, coef api.Wide, exp int, high, low uint64) {
	t.Helper()
	if h, l, ok := deci.Join(neg, coef, exp); h != high || l != low || !ok {
		t.Errorf("Join(%v, %v, %d): %016x, %016x, %v, not %016x, %016x, true", neg, coef, exp, h, l, ok, high, low)
	}
}

// hasNone also holds R2: with false there are 0 and 0.
func hasNone(t *testing.T, neg bool, coef api.Wide, exp int) {
	t.Helper()
	if h, l, ok := deci.Join(neg, coef, exp); h != 0 || l != 0 || ok {
		t.Errorf("Join(%v, %v, %d): %016x, %016x, %v, not 0, 0, false", neg, coef, exp, h, l, ok)
	}
}

func isPlain(t *testing.T, high, low uint64, want bool) {
	t.Helper()
	if got := deci.Plain(high, low); got != want {
		t.Errorf("Plain(%016x, %016x): %v, not %v", high, low, got, want)
	}
}

// goesWith holds Split and Plain against the chapter's sentences, and both against each other by Join.
func goesWith(t *testing.T, high, low uint64) {
	t.Helper()
	splits(t, high, low, told(high, low))
	isPlain(t, high, low, plain(high, low))
	comesBack(t, high, low)
}

// comesBack is Join of Split: the same bits of a plain Finite one, other bits of one that is not plain.
func comesBack(t *testing.T, high, low uint64) {
	t.Helper()
	kind, neg, coef, exp := deci.Split(high, low)
	if kind != deci.Finite {
		return
	}
	h, l, ok := deci.Join(neg, coef, exp)
	if same := h == high && l == low; !ok || same != plain(high, low) {
		t.Errorf("Join of Split(%016x, %016x): %016x, %016x, %v", high, low, h, l, ok)
	}
}

// isKept is P14.3, and what is joined is plain.
func isKept(t *testing.T, neg bool, coef api.Wide, exp int) {
	t.Helper()
	want, there := joined(neg, coef, exp)
	if !there {
		hasNone(t, neg, coef, exp)
		return
	}
	joins(t, neg, coef, exp, want.high, want.low)
	high, low, _ := deci.Join(neg, coef, exp)
	splits(t, high, low, parts{deci.Finite, neg, coef, exp})
	isPlain(t, high, low, true)
}

// both asks for either sign.
func both(t *testing.T, coef api.Wide, exp int) {
	t.Helper()
	isKept(t, false, coef, exp)
	isKept(t, true, coef, exp)
}

// P14.1: Split

func TestKinds(t *testing.T) {
	if deci.Finite != 1 || deci.Inf != 2 || deci.NaN != 3 {
		t.Errorf("the kinds are %d, %d, %d", deci.Finite, deci.Inf, deci.NaN)
	}
}

func TestSplitOfSecondForm(t *testing.T) {
	for _, c := range []struct {
		high, low uint64
		coef      api.Wide
		exp       int
	}{
		{0x3040000000000000, 1, api.Wide{Low: 1}, 0}, {0x3040000000000000, 0, api.Wide{}, 0}, {0x303E000000000000, 15, api.Wide{Low: 15}, -1}, {0x3042000000000000, 10, api.Wide{Low: 10}, 1},
		{0, 0, api.Wide{}, -6176}, {0, 1, api.Wide{Low: 1}, -6176}, {0, all, api.Wide{Low: all}, -6176}, {1, 0, api.Wide{High: 1}, -6176}, {1, 1, api.Wide{High: 1, Low: 1}, -6176}, {0x0002000000000000, 0, api.Wide{}, -6175}, {0x0002000000000001, 2, api.Wide{High: 1, Low: 2}, -6175},
		{0x0001ED09BEAD87C0, 0x378D8E63FFFFFFFF, api.Wide{High: mostHigh, Low: mostLow}, -6176}, {0x0001ED09BEAD87C0, 0x378D8E6400000000, api.Wide{}, -6176}, {0x0001ED09BEAD87C0, 0x378D8E6400000001, api.Wide{}, -6176}, {0x0001ED09BEAD87C1, 0, api.Wide{}, -6176}, {0x0001ED09BEAD87C0, 0, api.Wide{High: mostHigh}, -6176}, {0x0001FFFFFFFFFFFF, all, api.Wide{}, -6176}, {0x0001FFFFFFFFFFFF, 0, api.Wide{}, -6176}, {0x0001000000000000, 0, api.Wide{High: 1 << 48}, -6176},
		{0x3041ED09BEAD87C0, 0x378D8E63FFFFFFFF, api.Wide{High: mostHigh, Low: mostLow}, 0}, {0x3041ED09BEAD87C0, 0x378D8E6400000000, api.Wide{}, 0}, {0x3041FFFFFFFFFFFF, all, api.Wide{}, 0},
		{0x1FFFED09BEAD87BF, all, api.Wide{High: mostHigh - 1, Low: all}, -2081}, {0x2000000000000000, 3, api.Wide{Low: 3}, -2080}, {0x4000000000000000, 3, api.Wide{Low: 3}, 2016},
		{0x5FFC000000000000, 4, api.Wide{Low: 4}, 6110}, {0x5FFE000000000000, 0, api.Wide{}, 6111}, {0x5FFE000000000000, all, api.Wide{Low: all}, 6111}, {0x5FFE000000000001, 0, api.Wide{High: 1}, 6111}, {0x5FFFED09BEAD87C0, 0x378D8E63FFFFFFFF, api.Wide{High: mostHigh, Low: mostLow}, 6111}, {0x5FFFED09BEAD87C0, 0x378D8E6400000000, api.Wide{}, 6111}, {0x5FFFFFFFFFFFFFFF, all, api.Wide{}, 6111},
	} {
		splits(t, c.high, c.low, parts{deci.Finite, false, c.coef, c.exp})
		splits(t, sign|c.high, c.low, parts{deci.Finite, true, c.coef, c.exp})
	}
}

// The first form's coefficient is 0, whatever bits stand behind the exponent.
func TestSplitOfFirstForm(t *testing.T) {
	for _, c := range []struct {
		high uint64
		exp  int
	}{
		{0x6000000000000000, -6176}, {0x6000800000000000, -6175}, {0x6001000000000000, -6174}, {0x6C0F800000000000, -1}, {0x6C10000000000000, 0}, {0x6C10800000000000, 1},
		{0x63FFFFFFFFFFFFFF, -4129}, {0x6400000000000000, -4128}, {0x67FFFFFFFFFFFFFF, -2081}, {0x6800000000000000, -2080}, {0x6BFFFFFFFFFFFFFF, -33}, {0x6C00000000000000, -32}, {0x6FFFFFFFFFFFFFFF, 2015}, {0x7000000000000000, 2016}, {0x73FFFFFFFFFFFFFF, 4063}, {0x7400000000000000, 4064},
		{0x77FF000000000000, 6110}, {0x77FF7FFFFFFFFFFF, 6110}, {0x77FF800000000000, 6111}, {0x77FFFFFFFFFFFFFF, 6111},
	} {
		for _, low := range fills {
			splits(t, c.high, low, parts{deci.Finite, false, api.Wide{}, c.exp})
			splits(t, sign|c.high, low, parts{deci.Finite, true, api.Wide{}, c.exp})
		}
	}
}

func TestSplitOfInfAndNaN(t *testing.T) {
	for _, c := range []struct {
		high uint64
		kind int
	}{
		{0x7800000000000000, deci.Inf}, {0x7800000000000001, deci.Inf}, {0x7A00000000000000, deci.Inf}, {0x7900000000000000, deci.Inf}, {0x7840000000000000, deci.Inf}, {0x7BFFFFFFFFFFFFFF, deci.Inf}, {0x7BFFFFFFFFFFFFFE, deci.Inf},
		{0x7C00000000000000, deci.NaN}, {0x7C00000000000001, deci.NaN}, {0x7D00000000000000, deci.NaN}, {0x7E00000000000000, deci.NaN}, {0x7E00000000000001, deci.NaN}, {0x7DFFFFFFFFFFFFFF, deci.NaN}, {0x7FFFFFFFFFFFFFFF, deci.NaN},
	} {
		for _, low := range fills {
			splits(t, c.high, low, parts{c.kind, false, api.Wide{}, 0})
			splits(t, sign|c.high, low, parts{c.kind, true, api.Wide{}, 0})
		}
	}
}

// All 32 values of the five bits behind the sign, with the bits behind them all 0, all 1 and mixed.
func TestSplitOfEachRow(t *testing.T) {
	for row := range uint64(32) {
		for _, behind := range fills {
			for _, low := range fills {
				high := row<<58 | behind&(1<<58-1)
				goesWith(t, high, low)
				goesWith(t, sign|high, low)
				if kind, _, _, _ := deci.Split(high, low); (kind == deci.NaN) != (row == 31) || (kind == deci.Inf) != (row == 30) {
					t.Errorf("Split(%016x, %016x): the kind %d, of the row %d", high, low, kind, row)
				}
			}
		}
	}
}

// Every exponent in either form, so that no bit of it is lost, and none beside it is taken.
func TestSplitOfEachExponent(t *testing.T) {
	for x := range uint64(12288) {
		exp := int(x) - 6176
		splits(t, x<<49|1, 2, parts{deci.Finite, false, api.Wide{High: 1, Low: 2}, exp})
		splits(t, sign|x<<49|1<<48, all, parts{deci.Finite, true, api.Wide{High: 1 << 48, Low: all}, exp})
		splits(t, 0b11<<61|x<<47, 2, parts{deci.Finite, false, api.Wide{}, exp})
		splits(t, sign|0b11<<61|x<<47|(1<<47-1), all, parts{deci.Finite, true, api.Wide{}, exp})
	}
}

func TestSplitOfEachCoefficient(t *testing.T) {
	for _, x := range exponents {
		exp := int(x) - 6176
		for _, coef := range coefs {
			splits(t, x<<49|coef.High, coef.Low, parts{deci.Finite, false, coef, exp})
			splits(t, sign|x<<49|coef.High, coef.Low, parts{deci.Finite, true, coef, exp})
		}
		for _, coef := range over {
			splits(t, x<<49|coef.High, coef.Low, parts{deci.Finite, false, api.Wide{}, exp})
			splits(t, sign|x<<49|coef.High, coef.Low, parts{deci.Finite, true, api.Wide{}, exp})
		}
	}
}

func TestSplitOfEachBit(t *testing.T) {
	for i := range 128 {
		for j := range 128 {
			a, b := bit(i), bit(j)
			goesWith(t, a.high|b.high, a.low|b.low)
			goesWith(t, ^(a.high | b.high), ^(a.low | b.low))
			goesWith(t, nineHigh^a.high^b.high, mostLow^a.low^b.low)
		}
	}
}

// bit is a decimal that has just the bit i, of 0 to 127.
func bit(i int) pair {
	if i < 64 {
		return pair{low: 1 << i}
	}
	return pair{high: 1 << (i - 64)}
}

// drawn is a decimal of any bits, often with a coefficient that there is, or one near 10^34, or with few bits.
func drawn(rnd *rand.Rand) pair {
	p := pair{rnd.Uint64(), rnd.Uint64()}
	switch rnd.Intn(6) {
	case 0:
		p.high &^= 1<<49 - 1
		p.high |= rnd.Uint64() % mostHigh
	case 1:
		p.high = p.high&^(1<<49-1) | mostHigh
		p.low = mostLow + uint64(rnd.Intn(5)-2)
	case 2:
		p.high &^= 1<<49 - 1
		p.low >>= rnd.Intn(65)
	case 3:
		p = pair{p.high &^ (1<<rnd.Intn(65) - 1), 0}
	case 4:
		p.high |= 0b11 << 61
	}
	return p
}

func TestSplitOfAny(t *testing.T) {
	rnd := rand.New(rand.NewSource(141))
	for range 60000 {
		p := drawn(rnd)
		goesWith(t, p.high, p.low)
	}
}

// P14.2: Join

func TestJoinAtEdges(t *testing.T) {
	for _, c := range []struct {
		coef      api.Wide
		exp       int
		high, low uint64
	}{
		{api.Wide{Low: 1}, 0, 0x3040000000000000, 1}, {api.Wide{}, 0, 0x3040000000000000, 0}, {api.Wide{Low: 15}, -1, 0x303E000000000000, 15}, {api.Wide{Low: 1}, 1, 0x3042000000000000, 1},
		{api.Wide{}, -6176, 0, 0}, {api.Wide{Low: 1}, -6176, 0, 1}, {api.Wide{Low: 1}, -6175, 0x0002000000000000, 1}, {api.Wide{}, 6111, 0x5FFE000000000000, 0}, {api.Wide{Low: 1}, 6111, 0x5FFE000000000000, 1}, {api.Wide{Low: 1}, 6110, 0x5FFC000000000000, 1},
		{api.Wide{Low: all}, 0, 0x3040000000000000, all}, {api.Wide{High: 1}, 0, 0x3040000000000001, 0}, {api.Wide{High: 1, Low: 1}, 0, 0x3040000000000001, 1}, {api.Wide{High: 1 << 48}, 0, 0x3041000000000000, 0}, {api.Wide{High: 3, Low: 4}, -1, 0x303E000000000003, 4},
		{api.Wide{High: mostHigh, Low: mostLow}, -6176, 0x0001ED09BEAD87C0, 0x378D8E63FFFFFFFF}, {api.Wide{High: mostHigh, Low: mostLow}, 0, 0x3041ED09BEAD87C0, 0x378D8E63FFFFFFFF}, {api.Wide{High: mostHigh, Low: mostLow}, 6111, 0x5FFFED09BEAD87C0, 0x378D8E63FFFFFFFF}, {api.Wide{High: mostHigh}, 6111, 0x5FFFED09BEAD87C0, 0},
	} {
		joins(t, false, c.coef, c.exp, c.high, c.low)
		joins(t, true, c.coef, c.exp, sign|c.high, c.low)
	}
}

// The coefficients of the tables lie on the side of 10^34 that they are said to lie on.
func TestCoefficientsAreAsTold(t *testing.T) {
	greatest := api.Wide{High: mostHigh, Low: mostLow}
	if less := new(big.Int).Sub(tenTo34, big.NewInt(1)); number(greatest).Cmp(less) != 0 {
		t.Errorf("10^34 less 1 is %s, not %s", less, number(greatest))
	}
	for _, coef := range coefs {
		if number(coef).Cmp(tenTo34) >= 0 {
			t.Errorf("%v is too great", coef)
		}
	}
	for _, coef := range slices.Concat(over, farOver) {
		if number(coef).Cmp(tenTo34) < 0 {
			t.Errorf("%v is not too great", coef)
		}
	}
}

func TestJoinOfEachTwo(t *testing.T) {
	for _, exp := range exps {
		for _, coef := range coefs {
			both(t, coef, exp)
		}
	}
}

func TestJoinOfGreatCoefficients(t *testing.T) {
	for _, exp := range slices.Concat(exps, farExps) {
		for _, coef := range slices.Concat(over, farOver) {
			hasNone(t, false, coef, exp)
			hasNone(t, true, coef, exp)
		}
	}
}

func TestJoinOfFarExponents(t *testing.T) {
	for _, exp := range farExps {
		for _, coef := range coefs {
			hasNone(t, false, coef, exp)
			hasNone(t, true, coef, exp)
		}
	}
}

func TestJoinAroundTheBounds(t *testing.T) {
	for exp := -20000; exp <= 20000; exp++ {
		isKept(t, exp%2 == 0, api.Wide{High: 1, Low: uint64(exp)}, exp)
		isKept(t, exp%2 != 0, api.Wide{}, exp)
	}
	for n := int64(-300); n <= 300; n++ {
		both(t, wideOf(new(big.Int).Add(tenTo34, big.NewInt(n))), 6111)
	}
}

// With every power of 2, the one below it, and every power of 10 and those beside it.
func TestJoinOfEachLength(t *testing.T) {
	for i := range 128 {
		n := new(big.Int).Lsh(big.NewInt(1), uint(i))
		both(t, wideOf(n), -6176)
		both(t, wideOf(n.Sub(n, big.NewInt(1))), 6111)
	}
	for i := range 39 {
		n := great("1" + strings.Repeat("0", i))
		for d := int64(-1); d <= 1; d++ {
			both(t, wideOf(new(big.Int).Add(n, big.NewInt(d))), 0)
		}
	}
}

func TestJoinOfAny(t *testing.T) {
	rnd := rand.New(rand.NewSource(142))
	for range 60000 {
		coef := api.Wide{High: rnd.Uint64() >> (14 + rnd.Intn(51)), Low: rnd.Uint64() >> rnd.Intn(64)}
		both(t, coef, rnd.Intn(12400)-6200)
		both(t, api.Wide{High: rnd.Uint64(), Low: rnd.Uint64()}, rnd.Intn(12288)-6176)
		both(t, coef, int(rnd.Uint64())>>rnd.Intn(64))
	}
}

// P14.2: Plain

// rows are the plain ones that are not Finite, as the chapter writes them out: the first byte, and fifteen bytes 0 behind it.
var rows = []string{"78", "f8", "7c"}

// pairOf reads 32 digits.
func pairOf(t *testing.T, digits string) pair {
	t.Helper()
	high, err := strconv.ParseUint(digits[:16], 16, 64)
	if err != nil {
		t.Fatal(err)
	}
	low, err := strconv.ParseUint(digits[16:], 16, 64)
	if err != nil {
		t.Fatal(err)
	}
	return pair{high, low}
}

func TestPlainOfTheRows(t *testing.T) {
	for _, first := range rows {
		p := pairOf(t, first+strings.Repeat("00", 15))
		isPlain(t, p.high, p.low, true)
	}
	p := pairOf(t, "fc"+strings.Repeat("00", 15))
	isPlain(t, p.high, p.low, false)
}

// What differs from Inf and NaN in one bit is plain only where that makes another row of them, or a Finite one with a coefficient.
func TestPlainOfTheRowsWithOneBitChanged(t *testing.T) {
	for _, first := range slices.Concat(rows, []string{"fc"}) {
		p := pairOf(t, first+strings.Repeat("00", 15))
		for i := range 128 {
			b := bit(i)
			isPlain(t, p.high^b.high, p.low^b.low, plain(p.high^b.high, p.low^b.low))
		}
		for i := range 122 {
			b := bit(i)
			isPlain(t, p.high^b.high, p.low^b.low, false)
		}
	}
	isPlain(t, 0x7800000000000000^1<<63, 0, true)
	isPlain(t, 0x7800000000000000^1<<62, 0, true)
	isPlain(t, 0x7800000000000000^1<<61, 0, true)
	isPlain(t, 0x7800000000000000^1<<60, 0, false)
	isPlain(t, 0x7800000000000000^1<<59, 0, false)
	isPlain(t, 0x7800000000000000^1<<58, 0, true)
	isPlain(t, 0x7C00000000000000^1<<63, 0, false)
}

func TestPlainOfFinite(t *testing.T) {
	for _, x := range exponents {
		for _, coef := range coefs {
			isPlain(t, x<<49|coef.High, coef.Low, true)
			isPlain(t, sign|x<<49|coef.High, coef.Low, true)
		}
		for _, coef := range over {
			isPlain(t, x<<49|coef.High, coef.Low, false)
			isPlain(t, sign|x<<49|coef.High, coef.Low, false)
		}
		for _, low := range fills {
			isPlain(t, 0b11<<61|x<<47, low, false)
			isPlain(t, sign|0b11<<61|x<<47|low>>17, low, false)
		}
	}
}

// Of each plain Finite one, all that differ from it in one bit, held against the chapter's sentence.
func TestPlainOfFiniteWithOneBitChanged(t *testing.T) {
	for _, exp := range []int{-6176, -6175, -1, 0, 1, 6110, 6111} {
		for _, coef := range coefs {
			p, ok := joined(coef.Low%2 == 0, coef, exp)
			if !ok {
				t.Fatalf("%v, %d", coef, exp)
			}
			goesWith(t, p.high, p.low)
			for i := range 128 {
				b := bit(i)
				goesWith(t, p.high^b.high, p.low^b.low)
			}
		}
	}
}

func TestPlainOfAnyInfAndNaN(t *testing.T) {
	for _, first := range []uint64{0x78, 0xF8, 0x7C, 0xFC, 0x7A, 0x7B, 0x7E, 0x7F, 0xFE, 0xFF} {
		for _, behind := range fills[1:] {
			for _, low := range fills {
				isPlain(t, first<<56|behind>>6, low, first<<56|behind>>6 == first<<56 && low == 0 && (first == 0x78 || first == 0xF8 || first == 0x7C))
			}
		}
	}
}

// P14.3

func TestSplitOfJoin(t *testing.T) {
	for _, exp := range slices.Concat(exps, farExps) {
		for _, coef := range slices.Concat(coefs, over, farOver) {
			both(t, coef, exp)
		}
	}
}

// No bit that is joined lies on another one.
func TestNoTwoJoinedAreOne(t *testing.T) {
	seen := map[pair]string{}
	for _, exp := range exps {
		for _, coef := range coefs {
			for _, neg := range []bool{false, true} {
				high, low, _ := deci.Join(neg, coef, exp)
				one := fmt.Sprint(neg, coef, exp)
				if other, ok := seen[pair{high, low}]; ok {
					t.Errorf("Join of %s and of %s: both %016x, %016x", other, one, high, low)
				}
				seen[pair{high, low}] = one
			}
		}
	}
}

// R1, R5: no call panics, and each one answers as it did before, whatever was asked between.
func TestCallsOfAny(t *testing.T) {
	rnd := rand.New(rand.NewSource(143))
	for range 50000 {
		p, coef, exp := drawn(rnd), api.Wide{High: rnd.Uint64() >> rnd.Intn(65), Low: rnd.Uint64()}, int(rnd.Uint64())>>rnd.Intn(64)
		first := answers(p, coef, exp)
		answers(drawn(rnd), api.Wide{Low: rnd.Uint64()}, rnd.Intn(13000)-6500)
		if again := answers(p, coef, exp); again != first {
			t.Errorf("%x, %v, %d: %s, and then %s", p, coef, exp, first, again)
		}
	}
	hasNone(t, true, api.Wide{High: all, Low: all}, math.MinInt)
	hasNone(t, false, api.Wide{High: all, Low: all}, math.MaxInt)
	joins(t, false, api.Wide{Low: 1}, 0, 0x3040000000000000, 1)
	splits(t, all, all, parts{deci.NaN, true, api.Wide{}, 0})
	isPlain(t, all, all, false)
	isPlain(t, 0, 0, true)
}

// answers are those of all calls, as a text.
func answers(p pair, coef api.Wide, exp int) string {
	kind, neg, gotCoef, gotExp := deci.Split(p.high, p.low)
	high, low, ok := deci.Join(neg, coef, exp)
	return fmt.Sprint(kind, neg, gotCoef, gotExp, high, low, ok, deci.Plain(p.high, p.low))
}
