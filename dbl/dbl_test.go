package dbl_test

import (
	"fmt"
	"math"
	"math/big"
	"math/rand"
	"slices"
	"strconv"
	"testing"

	"propylon/dbl"
)

const (
	sign  = 1 << 63
	one   = 0x3FF0000000000000
	great = 0x7FEFFFFFFFFFFFFF
	inf   = 0x7FF0000000000000
	nan   = 0x7FF8000000000000
)

// fracs are an f whose every bit is 0 or 1, or that has a 1 at one end, in the midst, or at each other place.
var fracs = []uint64{0, 1, 2, 3, 1 << 25, 1 << 26, 1 << 51, 1<<51 + 1, 1<<52 - 2, 1<<52 - 1, 0x5555555555555, 0xAAAAAAAAAAAAA, 0x3243F6A8885A3}

// ordered are patterns from the least number to the greatest one, written out; the nought with a sign is left out.
var ordered = []uint64{
	sign | inf, sign | great, sign | great - 1, sign | 0x7FE0000000000000, sign | 0x7FDFFFFFFFFFFFFF, 0xC340000000000001, 0xC340000000000000, 0xC33FFFFFFFFFFFFF, 0xC000000000000000, 0xBFF8000000000000, 0xBFF0000000000001, 0xBFF0000000000000, 0xBFEFFFFFFFFFFFFF, 0xBFE0000000000000, sign | 0x0020000000000000, sign | 0x001FFFFFFFFFFFFF, sign | 0x0010000000000001, sign | 0x0010000000000000, sign | 0x000FFFFFFFFFFFFF, sign | 2, sign | 1,
	0,
	1, 2, 3, 0x0007FFFFFFFFFFFF, 0x0008000000000000, 0x000FFFFFFFFFFFFE, 0x000FFFFFFFFFFFFF, 0x0010000000000000, 0x0010000000000001, 0x001FFFFFFFFFFFFF, 0x0020000000000000, 0x3FB999999999999A, 0x3FE0000000000000, 0x3FEFFFFFFFFFFFFF, 0x3FF0000000000000, 0x3FF0000000000001, 0x3FF8000000000000, 0x4000000000000000, 0x4008000000000000, 0x4330000000000000, 0x433FFFFFFFFFFFFF, 0x4340000000000000, 0x4340000000000001, 0x43DFFFFFFFFFFFFF, 0x43E0000000000000, 0x43EFFFFFFFFFFFFF, 0x43F0000000000000, 0x7FDFFFFFFFFFFFFF, 0x7FE0000000000000, great - 1, great, inf,
}

// nans are NaNs of either sign: with one bit, with all bits, and with some.
var nans = []uint64{inf | 1, inf | 2, inf | 1<<26, inf | 1<<50, nan, nan | 1, inf | (1<<51 - 1), inf | (1<<52 - 1), sign | inf | 1, sign | nan, sign | inf | 1<<50, sign | nan | 12345, 1<<64 - 1}

// ints are numbers of 64 bits at which a sign, a bound or one bit too many could go wrong.
var ints = []int64{
	0, 1, 2, 3, 5, 7, 10, 255, 256, 1000, 1<<24 + 1, 1<<31 - 1, 1 << 31, 1<<32 - 1, 1 << 32, 1<<32 + 1, 1<<52 - 1, 1 << 52, 1<<52 + 1, 1<<53 - 2, 1<<53 - 1, 1 << 53, 1<<53 + 1, 1<<53 + 2, 1<<53 + 3, 1<<53 + 4, 1<<54 - 2, 1<<54 - 1, 1 << 54, 1<<54 + 1, 1<<54 + 2, 1<<54 + 3, 1<<54 + 4, 1<<55 - 4, 1<<55 - 2, 3 << 60, 1<<62 - 256, 1<<62 - 1, 1 << 62, 1<<62 + 1, 1<<62 + 512, 1<<62 + 1024, 1<<63 - 2048, 1<<63 - 1536, 1<<63 - 1025, 1<<63 - 1024, 1<<63 - 1023, 1<<63 - 512, 1<<63 - 2, math.MaxInt64,
	-1, -2, -3, -1 << 31, -1<<31 - 1, -1 << 32, -1 << 52, -1<<53 + 1, -1 << 53, -1<<53 - 1, -1<<53 - 2, -1<<53 - 3, -1<<54 + 1, -1 << 54, -1<<54 - 1, -1<<54 - 2, -1<<54 - 4, -1 << 62, -1<<62 - 1, -1<<63 + 2048, -1<<63 + 1025, -1<<63 + 1024, -1<<63 + 1023, -1<<63 + 512, -1<<63 + 2, -1<<63 + 1, math.MinInt64,
}

// exponents are powers of 2 that are far out, or at a bound of int or of int32.
var exponents = []int{
	math.MinInt, math.MinInt + 1, math.MinInt + 63, math.MinInt + 1074, math.MinInt + 1138, -1 << 62, math.MinInt32 - 1, math.MinInt32, math.MinInt32 + 1, -1 << 20, -65536, -32769, -4096, -2149, -2048, -1201,
	1101, 2047, 2048, 2049, 4096, 32768, 65535, 65536, 1 << 20, math.MaxInt32 - 63, math.MaxInt32, math.MaxInt32 + 1, 1<<32 - 1074, 1 << 32, 1<<32 + 1, 1 << 62, math.MaxInt - 2048, math.MaxInt - 1023, math.MaxInt - 64, math.MaxInt - 63, math.MaxInt - 1, math.MaxInt,
}

// patterns are all x with each of the fracs, of either sign.
func patterns() []uint64 {
	var all []uint64
	for x := range uint64(2048) {
		for _, f := range fracs {
			all = append(all, x<<52|f, sign|x<<52|f)
		}
	}
	return all
}

// few are patterns for all pairs of them.
func few() []uint64 {
	all := append(slices.Clone(ordered), nans...)
	all = append(all, sign)
	for _, x := range []uint64{0, 1, 2, 1022, 1023, 1024, 1075, 1076, 1085, 1086, 2045, 2046} {
		for _, f := range []uint64{1, 1 << 51, 1<<52 - 1, 0x5555555555555} {
			all = append(all, x<<52|f, sign|x<<52|f)
		}
	}
	return all
}

// drawn is a pattern, often one near an edge, or near a whole number.
func drawn(rnd *rand.Rand) uint64 {
	b := rnd.Uint64()
	switch rnd.Intn(6) {
	case 0:
		b = few()[rnd.Intn(len(few()))]
	case 1:
		b &^= 0x7FF << 52
	case 2:
		b = b&^(0x7FF<<52) | uint64(1020+rnd.Intn(70))<<52
	case 3:
		b = math.Float64bits(float64(int64(b) >> rnd.Intn(64)))
	case 4:
		b = math.Float64bits(float64(int64(b)>>rnd.Intn(64)) / 8)
	}
	return b &^ (1<<rnd.Intn(53) - 1)
}

// drawnM is a number of any length, with any number of noughts at its end.
func drawnM(rnd *rand.Rand) uint64 {
	m := rnd.Uint64() >> rnd.Intn(64)
	return m &^ (1<<rnd.Intn(64) - 1)
}

// parts reads a pattern's sign, x and f from its binary digits.
func parts(t *testing.T, b uint64) (neg bool, x, f int64) {
	t.Helper()
	s := fmt.Sprintf("%064b", b)
	x, err := strconv.ParseInt(s[1:12], 2, 64)
	if err != nil {
		t.Fatal(err)
	}
	f, err = strconv.ParseInt(s[12:], 2, 64)
	if err != nil {
		t.Fatal(err)
	}
	return s[0] == '1', x, f
}

// number is what a pattern stands for, by the language's own doubles, without a bound.
func number(b uint64) *big.Float {
	return new(big.Float).SetFloat64(math.Float64frombits(b))
}

// product is m times 2^e without rounding.
func product(neg bool, m uint64, e int) *big.Float {
	n := new(big.Float).SetUint64(m)
	n.SetMantExp(n, e)
	if neg {
		n.Neg(n)
	}
	return n
}

// joined asks whether a double is just m times 2^e. What lies beyond all doubles by far is beyond what big.Float has, too.
func joined(neg bool, m uint64, e int) (uint64, bool) {
	if m != 0 && (e < -5000 || e > 5000) {
		return 0, false
	}
	if m == 0 {
		e = 0
	}
	f, how := product(neg, m, e).Float64()
	if how != big.Exact {
		return 0, false
	}
	return math.Float64bits(f), true
}

// wholeOf asks by numbers without a bound for the int64 that a pattern is.
func wholeOf(b uint64) (int64, bool) {
	f := math.Float64frombits(b)
	if math.IsNaN(f) || math.IsInf(f, 0) {
		return 0, false
	}
	n, how := number(b).Int(nil)
	if how != big.Exact || !n.IsInt64() {
		return 0, false
	}
	return n.Int64(), true
}

// doubleOf asks by numbers without a bound whether a double is just v.
func doubleOf(v int64) (uint64, bool) {
	f, how := new(big.Float).SetInt64(v).Float64()
	if how != big.Exact {
		return 0, false
	}
	return math.Float64bits(f), true
}

func splits(t *testing.T, b uint64, kind int, neg bool, m uint64, e int) {
	t.Helper()
	if k, n, gotM, gotE := dbl.Split(b); k != kind || n != neg || gotM != m || gotE != e {
		t.Errorf("Split(%016x): %d, %v, %x, %d, not %d, %v, %x, %d", b, k, n, gotM, gotE, kind, neg, m, e)
	}
}

func joins(t *testing.T, neg bool, m uint64, e int, want uint64) {
	t.Helper()
	if b, ok := dbl.Join(neg, m, e); b != want || !ok {
		t.Errorf("Join(%v, %x, %d): %016x, %v, not %016x, true", neg, m, e, b, ok, want)
	}
}

// hasNone also holds R2: with false there is 0.
func hasNone(t *testing.T, neg bool, m uint64, e int) {
	t.Helper()
	if b, ok := dbl.Join(neg, m, e); b != 0 || ok {
		t.Errorf("Join(%v, %x, %d): %016x, %v, not 0, false", neg, m, e, b, ok)
	}
}

func judges(t *testing.T, neg bool, m uint64, e int) {
	t.Helper()
	if want, ok := joined(neg, m, e); ok {
		joins(t, neg, m, e, want)
	} else {
		hasNone(t, neg, m, e)
	}
}

func compares(t *testing.T, a, b uint64, want int) {
	t.Helper()
	if c, ok := dbl.Cmp(a, b); c != want || !ok {
		t.Errorf("Cmp(%016x, %016x): %d, %v, not %d, true", a, b, c, ok, want)
	}
}

// hasNoOrder also holds R2: with false there is 0.
func hasNoOrder(t *testing.T, a, b uint64) {
	t.Helper()
	if c, ok := dbl.Cmp(a, b); c != 0 || ok {
		t.Errorf("Cmp(%016x, %016x): %d, %v, not 0, false", a, b, c, ok)
	}
}

// goesWith holds Cmp against the language's own order of doubles, either way round.
func goesWith(t *testing.T, a, b uint64) {
	t.Helper()
	x, y := math.Float64frombits(a), math.Float64frombits(b)
	switch {
	case x < y:
		compares(t, a, b, -1)
		compares(t, b, a, 1)
	case x > y:
		compares(t, a, b, 1)
		compares(t, b, a, -1)
	case x == y:
		compares(t, a, b, 0)
		compares(t, b, a, 0)
	default:
		hasNoOrder(t, a, b)
		hasNoOrder(t, b, a)
	}
}

func isWhole(t *testing.T, b uint64, want int64) {
	t.Helper()
	if v, ok := dbl.Whole(b); v != want || !ok {
		t.Errorf("Whole(%016x): %d, %v, not %d, true", b, v, ok, want)
	}
}

// isNotWhole also holds R2: with false there is 0.
func isNotWhole(t *testing.T, b uint64) {
	t.Helper()
	if v, ok := dbl.Whole(b); v != 0 || ok {
		t.Errorf("Whole(%016x): %d, %v, not 0, false", b, v, ok)
	}
}

func asksWhole(t *testing.T, b uint64) {
	t.Helper()
	if want, ok := wholeOf(b); ok {
		isWhole(t, b, want)
	} else {
		isNotWhole(t, b)
	}
}

func becomes(t *testing.T, v int64, want uint64) {
	t.Helper()
	if b, ok := dbl.Of(v); b != want || !ok {
		t.Errorf("Of(%d): %016x, %v, not %016x, true", v, b, ok, want)
	}
}

// isNone also holds R2: with false there is 0.
func isNone(t *testing.T, v int64) {
	t.Helper()
	if b, ok := dbl.Of(v); b != 0 || ok {
		t.Errorf("Of(%d): %016x, %v, not 0, false", v, b, ok)
	}
}

func asksOf(t *testing.T, v int64) {
	t.Helper()
	if want, ok := doubleOf(v); ok {
		becomes(t, v, want)
		isWhole(t, want, v)
	} else {
		isNone(t, v)
	}
}

// comesBack is P11.3.
func comesBack(t *testing.T, b uint64) {
	t.Helper()
	kind, neg, m, e := dbl.Split(b)
	if kind == dbl.Zero || kind == dbl.Finite {
		joins(t, neg, m, e, b)
	}
}

// P11.1: Split

func TestKinds(t *testing.T) {
	if dbl.Zero != 1 || dbl.Finite != 2 || dbl.Inf != 3 || dbl.NaN != 4 {
		t.Errorf("the kinds are %d, %d, %d, %d", dbl.Zero, dbl.Finite, dbl.Inf, dbl.NaN)
	}
}

func TestSplitAtEdges(t *testing.T) {
	for _, c := range []struct {
		b    uint64
		kind int
		m    uint64
		e    int
	}{
		{0, dbl.Zero, 0, 0}, {inf, dbl.Inf, 0, 0}, {nan, dbl.NaN, 0, 0}, {inf | 1, dbl.NaN, 0, 0}, {0x7FFFFFFFFFFFFFFF, dbl.NaN, 0, 0}, {0x7FF7FFFFFFFFFFFF, dbl.NaN, 0, 0},
		{1, dbl.Finite, 1, -1074}, {2, dbl.Finite, 2, -1074}, {3, dbl.Finite, 3, -1074}, {1 << 51, dbl.Finite, 2251799813685248, -1074}, {0x000FFFFFFFFFFFFF, dbl.Finite, 4503599627370495, -1074},
		{0x0010000000000000, dbl.Finite, 4503599627370496, -1074}, {0x0010000000000001, dbl.Finite, 4503599627370497, -1074}, {0x001FFFFFFFFFFFFF, dbl.Finite, 9007199254740991, -1074}, {0x0020000000000000, dbl.Finite, 4503599627370496, -1073}, {0x002FFFFFFFFFFFFF, dbl.Finite, 9007199254740991, -1073},
		{0x3FE0000000000000, dbl.Finite, 4503599627370496, -53}, {0x3FF0000000000000, dbl.Finite, 4503599627370496, -52}, {0x3FF8000000000000, dbl.Finite, 3 << 51, -52}, {0x3FF0000000000001, dbl.Finite, 4503599627370497, -52}, {0x4000000000000000, dbl.Finite, 4503599627370496, -51}, {0x4008000000000000, dbl.Finite, 3 << 51, -51}, {0x4014000000000000, dbl.Finite, 5 << 50, -50}, {0x3FB999999999999A, dbl.Finite, 0x1999999999999A, -56},
		{0x4320000000000000, dbl.Finite, 4503599627370496, -1}, {0x432FFFFFFFFFFFFF, dbl.Finite, 9007199254740991, -1}, {0x4330000000000000, dbl.Finite, 4503599627370496, 0}, {0x433FFFFFFFFFFFFF, dbl.Finite, 9007199254740991, 0}, {0x4340000000000000, dbl.Finite, 4503599627370496, 1}, {0x4340000000000001, dbl.Finite, 4503599627370497, 1}, {0x43E0000000000000, dbl.Finite, 4503599627370496, 11}, {0x444B1AE4D6E2EF50, dbl.Finite, 0x1B1AE4D6E2EF50, 17},
		{0x7FD0000000000000, dbl.Finite, 4503599627370496, 970}, {0x7FE0000000000000, dbl.Finite, 4503599627370496, 971}, {0x7FE0000000000001, dbl.Finite, 4503599627370497, 971}, {great - 1, dbl.Finite, 9007199254740990, 971}, {great, dbl.Finite, 9007199254740991, 971},
	} {
		splits(t, c.b, c.kind, false, c.m, c.e)
		splits(t, c.b|sign, c.kind, true, c.m, c.e)
	}
}

func TestSplitOfNaNsWithOneBit(t *testing.T) {
	for i := range 52 {
		splits(t, inf|1<<i, dbl.NaN, false, 0, 0)
		splits(t, sign|inf|1<<i, dbl.NaN, true, 0, 0)
		splits(t, (inf|(1<<52-1))&^(1<<i), dbl.NaN, false, 0, 0)
		splits(t, sign|(inf|(1<<52-1))&^(1<<i), dbl.NaN, true, 0, 0)
	}
	for _, b := range nans {
		splits(t, b, dbl.NaN, b >= sign, 0, 0)
	}
}

// splitsAsTold holds Split against the chapter's sentence, by the pattern's binary digits.
func splitsAsTold(t *testing.T, b uint64) {
	t.Helper()
	neg, x, f := parts(t, b)
	switch {
	case x == 0 && f == 0:
		splits(t, b, dbl.Zero, neg, 0, 0)
	case x == 2047 && f == 0:
		splits(t, b, dbl.Inf, neg, 0, 0)
	case x == 2047:
		splits(t, b, dbl.NaN, neg, 0, 0)
	case x == 0:
		splits(t, b, dbl.Finite, neg, uint64(f), -1074)
	default:
		splits(t, b, dbl.Finite, neg, uint64(4503599627370496+f), int(x-1075))
	}
}

// splitsAsNumber holds what Split tells against the language's own doubles.
func splitsAsNumber(t *testing.T, b uint64) {
	t.Helper()
	f := math.Float64frombits(b)
	kind, neg, m, e := dbl.Split(b)
	if neg != math.Signbit(f) || (kind == dbl.NaN) != math.IsNaN(f) || (kind == dbl.Inf) != math.IsInf(f, 0) || (kind == dbl.Zero) != (f == 0) {
		t.Errorf("Split(%016x): %d, %v, but it is %v", b, kind, neg, f)
	}
	if kind == dbl.Finite && product(neg, m, e).Cmp(number(b)) != 0 {
		t.Errorf("Split(%016x): %x times 2^%d, sign %v, but it is %v", b, m, e, neg, f)
	}
}

func TestSplitOfEachX(t *testing.T) {
	for _, b := range patterns() {
		splitsAsTold(t, b)
		splitsAsNumber(t, b)
	}
}

func TestSplitOfEachBit(t *testing.T) {
	for i := range 64 {
		for j := range 64 {
			for _, b := range []uint64{1<<i | 1<<j, ^uint64(1<<i | 1<<j), 1<<i - 1<<j} {
				splitsAsTold(t, b)
				splitsAsNumber(t, b)
			}
		}
	}
}

func TestSplitOfAny(t *testing.T) {
	rnd := rand.New(rand.NewSource(111))
	for range 30000 {
		b := drawn(rnd)
		splitsAsTold(t, b)
		splitsAsNumber(t, b)
		splitsAsTold(t, rnd.Uint64())
	}
}

// P11.2: Join

func TestJoinOfNought(t *testing.T) {
	for e := -2200; e <= 2200; e++ {
		joins(t, false, 0, e, 0)
		joins(t, true, 0, e, sign)
	}
	for _, e := range exponents {
		joins(t, false, 0, e, 0)
		joins(t, true, 0, e, sign)
	}
}

func TestJoinAtEdges(t *testing.T) {
	for _, c := range []struct {
		m    uint64
		e    int
		want uint64
	}{
		{1, 0, 0x3FF0000000000000}, {2, -1, 0x3FF0000000000000}, {1 << 52, -52, 0x3FF0000000000000}, {1 << 63, -63, 0x3FF0000000000000}, {1, -1, 0x3FE0000000000000}, {1, 1, 0x4000000000000000}, {3, 0, 0x4008000000000000}, {3, -1, 0x3FF8000000000000}, {3 << 51, -52, 0x3FF8000000000000}, {3 << 62, -63, 0x3FF8000000000000}, {5, 0, 0x4014000000000000}, {10, 0, 0x4024000000000000}, {7, -3, 0x3FEC000000000000},
		{1 << 52, 0, 0x4330000000000000}, {1<<52 + 1, 0, 0x4330000000000001}, {1<<53 - 1, 0, 0x433FFFFFFFFFFFFF}, {1 << 53, 0, 0x4340000000000000}, {1<<53 + 2, 0, 0x4340000000000001}, {1<<54 - 2, 0, 0x434FFFFFFFFFFFFF}, {1<<54 + 4, 0, 0x4350000000000001}, {1 << 62, 0, 0x43D0000000000000}, {1 << 63, 0, 0x43E0000000000000}, {1<<63 + 2048, 0, 0x43E0000000000001}, {1<<63 - 1024, 0, 0x43DFFFFFFFFFFFFF}, {0xFFFFFFFFFFFFF800, 0, 0x43EFFFFFFFFFFFFF},
		{1, -1074, 1}, {2, -1075, 1}, {4, -1076, 1}, {1 << 52, -1126, 1}, {1 << 62, -1136, 1}, {1 << 63, -1137, 1}, {2, -1074, 2}, {1, -1073, 2}, {1 << 63, -1136, 2}, {3, -1074, 3}, {6, -1075, 3}, {3 << 62, -1136, 3}, {5 << 61, -1135, 5},
		{1 << 51, -1074, 0x0008000000000000}, {1, -1023, 0x0008000000000000}, {1 << 63, -1086, 0x0008000000000000}, {1<<52 - 1, -1074, 0x000FFFFFFFFFFFFF}, {1<<53 - 2, -1075, 0x000FFFFFFFFFFFFF}, {(1<<52 - 1) << 12, -1086, 0x000FFFFFFFFFFFFF}, {1<<51 - 1, -1073, 0x000FFFFFFFFFFFFE},
		{1, -1022, 0x0010000000000000}, {1 << 52, -1074, 0x0010000000000000}, {1 << 53, -1075, 0x0010000000000000}, {1 << 63, -1085, 0x0010000000000000}, {1<<52 + 1, -1074, 0x0010000000000001}, {1<<53 + 2, -1075, 0x0010000000000001}, {(1<<52 + 1) << 11, -1085, 0x0010000000000001}, {1<<53 - 1, -1074, 0x001FFFFFFFFFFFFF}, {1 << 53, -1074, 0x0020000000000000}, {1<<54 - 2, -1074, 0x002FFFFFFFFFFFFF}, {1<<53 + 2, -1074, 0x0020000000000001},
		{1, 1022, 0x7FD0000000000000}, {1, 1023, 0x7FE0000000000000}, {2, 1022, 0x7FE0000000000000}, {1 << 63, 960, 0x7FE0000000000000}, {3, 1022, 0x7FE8000000000000}, {1<<53 - 1, 971, great}, {1<<54 - 2, 970, great}, {(1<<53 - 1) << 11, 960, great}, {1<<52 - 1, 972, great - 1}, {1<<53 - 2, 971, great - 1}, {1<<53 - 1, 970, 0x7FDFFFFFFFFFFFFF}, {1 << 52, 971, 0x7FE0000000000000}, {1<<52 + 1, 971, 0x7FE0000000000001}, {1 << 53, 970, 0x7FE0000000000000},
	} {
		joins(t, false, c.m, c.e, c.want)
		joins(t, true, c.m, c.e, c.want|sign)
	}
}

func TestJoinOfWhatNoPatternIs(t *testing.T) {
	for _, c := range []struct {
		m uint64
		e int
	}{
		// One bit more than a pattern has.
		{1<<53 + 1, 0}, {1<<54 - 1, 0}, {1<<54 + 1, 0}, {1<<54 + 2, 0}, {1<<63 + 1, 0}, {1<<63 + 512, 0}, {1<<63 + 1024, 0}, {1<<63 - 1, 0}, {1<<63 - 512, 0}, {1<<64 - 1, 0}, {1<<64 - 1024, 0}, {1<<53 + 1, -52}, {1<<53 + 1, -1074}, {1<<53 + 1, 970}, {1<<54 - 1, 970}, {1<<54 - 1, -1074}, {1<<64 - 1024, 960}, {1<<64 - 1, -1137}, {1<<64 - 1, 960}, {1<<64 - 1, -1138},
		// Below the least pattern, or between two where x is 0.
		{1, -1075}, {1, -1076}, {1, -1137}, {1, -1138}, {1, -1139}, {2, -1076}, {4, -1077}, {3, -1075}, {3, -1076}, {6, -1076}, {5, -1075}, {5, -1076}, {1 << 52, -1127}, {1 << 62, -1137}, {1 << 63, -1138}, {1 << 63, -1139}, {3 << 62, -1137}, {1<<63 + 1<<62 + 1<<61, -1136}, {1<<52 - 1, -1075}, {1<<52 + 1, -1075}, {1<<53 - 1, -1075}, {1<<53 + 1, -1075}, {1<<53 - 2, -1076}, {1<<52 - 1, -1076}, {(1<<52 - 1) << 12, -1087}, {(1<<53 - 1) << 11, -1086}, {1<<63 + 1, -1137}, {1<<63 + 1, -1085}, {1<<63 - 1, -1085},
		// Past the greatest one.
		{1, 1024}, {1, 1025}, {2, 1023}, {3, 1023}, {3, 1024}, {4, 1022}, {1 << 52, 972}, {1 << 53, 971}, {1<<53 - 1, 972}, {1<<53 + 1, 971}, {1<<53 + 2, 971}, {1<<54 - 2, 971}, {1 << 54, 970}, {1 << 63, 961}, {1 << 63, 962}, {1 << 63, 1023}, {1 << 63, 1024}, {(1<<53 - 1) << 11, 961}, {1<<64 - 1, 961}, {1<<64 - 1, 1023},
	} {
		hasNone(t, false, c.m, c.e)
		hasNone(t, true, c.m, c.e)
	}
}

func TestJoinFarOut(t *testing.T) {
	for _, e := range exponents {
		for i := range 64 {
			for _, m := range []uint64{1 << i, 3 << i, 1<<i | 1, math.MaxUint64 << i, 1<<i | 1<<63} {
				if m != 0 {
					hasNone(t, false, m, e)
					hasNone(t, true, m, e)
				}
			}
		}
	}
}

// Every power of 2 that there is, with every number of noughts behind it, and the ones that there are not.
func TestJoinOfPowers(t *testing.T) {
	for noughts := range 64 {
		for power := -1250; power <= 1250; power++ {
			judges(t, false, 1<<noughts, power-noughts)
			if power >= -1074 && power <= 1023 {
				joins(t, true, 1<<noughts, power-noughts, math.Float64bits(-math.Ldexp(1, power)))
			} else {
				hasNone(t, true, 1<<noughts, power-noughts)
			}
		}
	}
}

// lengths are numbers of each number of bits: with one bit, with all bits, with a bit at each end, and of 52 to 55 bits with noughts behind them.
func lengths() []uint64 {
	var all []uint64
	for n := 1; n <= 64; n++ {
		high := uint64(1) << (n - 1)
		all = append(all, high, 2*high-1, high|1, high|high>>1)
		for _, bits := range []int{51, 52, 53, 54, 55} {
			if bits <= n {
				last := uint64(1) << (n - bits)
				all = append(all, high|last, 2*high-last)
			}
		}
	}
	return all
}

// Every length at every bound of e: at both ends of the patterns, where x becomes 0, and in the midst.
func TestJoinOfEachLength(t *testing.T) {
	for _, m := range lengths() {
		for _, from := range []int{-1142, -1090, -1030, -66, 898, 958, 1020} {
			for e := from; e < from+72; e++ {
				judges(t, false, m, e)
			}
		}
		for e := -1200; e <= 1100; e += 9 {
			judges(t, true, m, e)
		}
	}
}

// Where x is 0, as many bits as there are above the lowest place fit, and not one more.
func TestJoinWhereXIsNought(t *testing.T) {
	for n := 1; n <= 52; n++ {
		all := uint64(1)<<n - 1
		joins(t, false, all, -1074, all)
		joins(t, true, all, -1074, sign|all)
		hasNone(t, false, all, -1075)
		hasNone(t, false, 2*all+1, -1075)
		hasNone(t, true, 1<<n|1, -1075)
		for up := range 64 - n {
			joins(t, false, all<<up, -1074-up, all)
			hasNone(t, false, all<<up, -1075-up)
		}
	}
}

func TestJoinOfAny(t *testing.T) {
	rnd := rand.New(rand.NewSource(112))
	found := [2]int{}
	for range 200000 {
		m, e, neg := drawnM(rnd), rnd.Intn(2400)-1250, rnd.Intn(2) == 0
		judges(t, neg, m, e)
		if _, ok := joined(neg, m, e); ok {
			found[1]++
		} else {
			found[0]++
		}
		judges(t, neg, m, int(rnd.Uint64())>>rnd.Intn(64))
	}
	if min(found[0], found[1]) < 10000 {
		t.Errorf("too few of one sort were tried: %v", found)
	}
}

// P11.2: Cmp

func TestCmpAtEdges(t *testing.T) {
	for i, a := range ordered {
		for j, b := range ordered {
			switch {
			case i < j:
				compares(t, a, b, -1)
			case i > j:
				compares(t, a, b, 1)
			default:
				compares(t, a, b, 0)
			}
		}
	}
}

func TestCmpOfBothNoughts(t *testing.T) {
	compares(t, 0, sign, 0)
	compares(t, sign, 0, 0)
	compares(t, 0, 0, 0)
	compares(t, sign, sign, 0)
	for _, b := range ordered {
		want := -1
		if b >= sign {
			want = 1
		}
		if b == 0 {
			want = 0
		}
		compares(t, sign, b, want)
		compares(t, b, sign, -want)
	}
}

func TestCmpOfNaNs(t *testing.T) {
	for _, a := range nans {
		hasNoOrder(t, a, a)
		for _, b := range nans {
			hasNoOrder(t, a, b)
		}
		for _, b := range append(slices.Clone(ordered), sign) {
			hasNoOrder(t, a, b)
			hasNoOrder(t, b, a)
		}
	}
}

func TestCmpOfEachTwo(t *testing.T) {
	for _, a := range few() {
		for _, b := range few() {
			goesWith(t, a, b)
		}
	}
}

// Patterns one beside the other, of every x: up to the Infs each one is beyond the one below it, and behind them there is no order.
func TestCmpOfNeighbours(t *testing.T) {
	for _, b := range patterns() {
		if b == 1<<64-1 {
			continue
		}
		goesWith(t, b, b)
		goesWith(t, b, b+1)
		goesWith(t, b, b^sign)
		if size := b &^ sign; size < inf {
			compares(t, size, size+1, -1)
			compares(t, size+1, size, 1)
			compares(t, sign|size, sign|(size+1), 1)
			compares(t, sign|(size+1), sign|size, -1)
			compares(t, size, size, 0)
			compares(t, sign|(size+1), size+1, -1)
			compares(t, size+1, sign|(size+1), 1)
		}
	}
}

// The numbers without a bound are asked too, besides the language's own doubles.
func TestCmpOfAny(t *testing.T) {
	rnd := rand.New(rand.NewSource(113))
	for range 50000 {
		a, b := drawn(rnd), drawn(rnd)
		if rnd.Intn(3) == 0 {
			b = a ^ 1<<rnd.Intn(64)
		}
		goesWith(t, a, b)
		x, y := math.Float64frombits(a), math.Float64frombits(b)
		if !math.IsNaN(x) && !math.IsNaN(y) {
			compares(t, a, b, number(a).Cmp(number(b)))
		}
	}
}

// What is sorted by Cmp goes up.
func TestCmpSorts(t *testing.T) {
	rnd := rand.New(rand.NewSource(114))
	var list []uint64
	for len(list) < 5000 {
		if b := drawn(rnd); !math.IsNaN(math.Float64frombits(b)) {
			list = append(list, b)
		}
	}
	slices.SortFunc(list, func(a, b uint64) int {
		c, _ := dbl.Cmp(a, b)
		return c
	})
	for i := 1; i < len(list); i++ {
		if math.Float64frombits(list[i-1]) > math.Float64frombits(list[i]) {
			t.Errorf("%016x comes ahead of %016x", list[i-1], list[i])
		}
	}
}

// P11.2: Whole

func TestWholeAtEdges(t *testing.T) {
	for _, c := range []struct {
		b    uint64
		want int64
	}{
		{0, 0}, {sign, 0}, {0x3FF0000000000000, 1}, {0xBFF0000000000000, -1}, {0x4000000000000000, 2}, {0xC000000000000000, -2}, {0x4008000000000000, 3}, {0xC008000000000000, -3}, {0x4024000000000000, 10}, {0x405EC00000000000, 123}, {0xC05EC00000000000, -123}, {0x41E0000000000000, 1 << 31}, {0x41DFFFFFFFC00000, 1<<31 - 1},
		{0x432FFFFFFFFFFFFE, 4503599627370495}, {0x4330000000000000, 4503599627370496}, {0x4330000000000001, 4503599627370497}, {0x433FFFFFFFFFFFFF, 9007199254740991}, {0x4340000000000000, 9007199254740992}, {0x4340000000000001, 9007199254740994}, {0x434FFFFFFFFFFFFF, 18014398509481982}, {0x4350000000000000, 18014398509481984}, {0xC33FFFFFFFFFFFFF, -9007199254740991}, {0xC340000000000000, -9007199254740992}, {0xC340000000000001, -9007199254740994},
		{0x43CFFFFFFFFFFFFF, 1<<62 - 512}, {0x43D0000000000000, 1 << 62}, {0x43D0000000000001, 1<<62 + 1024}, {0x43DFFFFFFFFFFFFF, 9223372036854774784}, {0xC3D0000000000000, -1 << 62}, {0xC3DFFFFFFFFFFFFF, -9223372036854774784}, {0xC3E0000000000000, math.MinInt64},
	} {
		isWhole(t, c.b, c.want)
	}
}

func TestWholeOfOthers(t *testing.T) {
	for _, b := range []uint64{
		// Halves, other parts, and the numbers beside whole ones.
		0x3FE0000000000000, 0x3FF8000000000000, 0x4004000000000000, 0x3FD0000000000000, 0x3FC0000000000000, 0x3FB999999999999A, 0x3FF4000000000000, 0x405EDD2F1A9FBE77, 0x3FEFFFFFFFFFFFFF, 0x3FF0000000000001, 0x3FFFFFFFFFFFFFFF, 0x4000000000000001, 0x4007FFFFFFFFFFFF, 0x4008000000000001, 0x412E847FFFFFFFFF, 0x432FFFFFFFFFFFFF, 0x432FFFFFFFFFFFFD, 0x4320000000000001, 0x431FFFFFFFFFFFFF, 0x4310000000000001, 0x4310000000000002,
		// Next to nought.
		1, 2, 3, 1 << 51, 0x000FFFFFFFFFFFFF, 0x0010000000000000, 0x0010000000000001, 0x001FFFFFFFFFFFFF,
		// Past the bounds, as far above 0 as below it.
		0x43E0000000000001, 0x43E8000000000000, 0x43EFFFFFFFFFFFFF, 0x43F0000000000000, 0x43F0000000000001, 0x4400000000000000, 0x444B1AE4D6E2EF50, 0x4630000000000000, 0x47F0000000000000, 0x7FD0000000000000, 0x7FE0000000000000, great, inf,
	} {
		isNotWhole(t, b)
		isNotWhole(t, b|sign)
	}
	isNotWhole(t, 0x43E0000000000000)
	for _, b := range nans {
		isNotWhole(t, b)
	}
}

func TestWholeOfEachX(t *testing.T) {
	for _, b := range patterns() {
		asksWhole(t, b)
	}
}

// Each x at which there are whole numbers, with each number of noughts at the end of f.
func TestWholeOfEachLowestBit(t *testing.T) {
	for x := uint64(1020); x < 1100; x++ {
		for i := range 52 {
			for _, f := range []uint64{1 << i, 1<<52 - 1<<i, 1<<51 | 1<<i, 1<<i - 1} {
				asksWhole(t, x<<52|f)
				asksWhole(t, sign|x<<52|f)
			}
		}
	}
}

func TestWholeBesideWholeOnes(t *testing.T) {
	for i := range 52 {
		for _, v := range []int64{1 << i, -1 << i, 3 << i, -5 << i, 1<<i + 1, -1<<i - 1, 1<<52 - 1<<i - 1} {
			b := math.Float64bits(float64(v))
			isWhole(t, b, v)
			if v != 0 {
				asksWhole(t, b-1)
				asksWhole(t, b+1)
			}
			if -1<<52 < v && v < 1<<52 {
				isNotWhole(t, math.Float64bits(float64(v)+0.5))
				isNotWhole(t, math.Float64bits(float64(v)-0.5))
			}
		}
	}
}

func TestWholeOfAny(t *testing.T) {
	rnd := rand.New(rand.NewSource(115))
	found := [2]int{}
	for range 100000 {
		b := drawn(rnd)
		asksWhole(t, b)
		if _, ok := wholeOf(b); ok {
			found[1]++
		} else {
			found[0]++
		}
	}
	if min(found[0], found[1]) < 10000 {
		t.Errorf("too few of one sort were tried: %v", found)
	}
}

// P11.2: Of

func TestOfAtEdges(t *testing.T) {
	for _, c := range []struct {
		v    int64
		want uint64
	}{
		{0, 0}, {1, 0x3FF0000000000000}, {-1, 0xBFF0000000000000}, {2, 0x4000000000000000}, {-2, 0xC000000000000000}, {3, 0x4008000000000000}, {-3, 0xC008000000000000}, {10, 0x4024000000000000}, {123, 0x405EC00000000000}, {1<<31 - 1, 0x41DFFFFFFFC00000}, {-1 << 31, 0xC1E0000000000000},
		{4503599627370496, 0x4330000000000000}, {4503599627370497, 0x4330000000000001}, {9007199254740991, 0x433FFFFFFFFFFFFF}, {-9007199254740991, 0xC33FFFFFFFFFFFFF}, {9007199254740992, 0x4340000000000000}, {-9007199254740992, 0xC340000000000000}, {9007199254740994, 0x4340000000000001}, {-9007199254740994, 0xC340000000000001}, {18014398509481982, 0x434FFFFFFFFFFFFF}, {18014398509481984, 0x4350000000000000}, {18014398509481988, 0x4350000000000001}, {1000000000000000000, 0x43ABC16D674EC800},
		{1<<62 - 512, 0x43CFFFFFFFFFFFFF}, {1 << 62, 0x43D0000000000000}, {-1 << 62, 0xC3D0000000000000}, {1<<62 + 1024, 0x43D0000000000001}, {9223372036854774784, 0x43DFFFFFFFFFFFFF}, {-9223372036854774784, 0xC3DFFFFFFFFFFFFF}, {math.MinInt64, 0xC3E0000000000000},
	} {
		becomes(t, c.v, c.want)
	}
}

func TestOfNumbersThatAreNone(t *testing.T) {
	for _, v := range []int64{
		9007199254740993, 9007199254740995, 9007199254740997, 18014398509481981, 18014398509481983, 18014398509481985, 18014398509481986, 18014398509481987, 36028797018963966, 36028797018963970, 36028797018963972, 1<<60 + 1, 1<<62 - 1, 1<<62 + 1, 1<<62 - 256, 1<<62 + 512, 1<<62 + 1536, 1234567890123456789,
		math.MaxInt64, math.MaxInt64 - 1, math.MaxInt64 - 2, math.MaxInt64 - 511, math.MaxInt64 - 512, math.MaxInt64 - 1022, math.MaxInt64 - 1024, 9223372036854774272,
	} {
		isNone(t, v)
		isNone(t, -v)
	}
	for v := int64(math.MinInt64 + 1); v < math.MinInt64+1024; v++ {
		isNone(t, v)
		isNone(t, -v)
	}
}

func TestOfEdges(t *testing.T) {
	for _, v := range ints {
		for near := int64(-3); near <= 3; near++ {
			asksOf(t, v+near)
		}
	}
}

func TestOfSmallNumbers(t *testing.T) {
	for v := int64(-70000); v <= 70000; v++ {
		becomes(t, v, math.Float64bits(float64(v)))
	}
}

// Numbers of every length, with every number of noughts at their end: up to 53 bits from the highest to the lowest 1 there is a pattern, from 54 on there is none.
func TestOfEachLength(t *testing.T) {
	for high := range 63 {
		for low := range high + 1 {
			for _, v := range []int64{1<<high | 1<<low, 1<<high - 1<<low + 1<<high, 1<<high | 1<<low | 1<<((high+low)/2)} {
				if high-low < 53 {
					becomes(t, v, math.Float64bits(float64(v)))
					becomes(t, -v, math.Float64bits(float64(-v)))
				} else {
					isNone(t, v)
					isNone(t, -v)
				}
			}
		}
	}
}

func TestOfAny(t *testing.T) {
	rnd := rand.New(rand.NewSource(116))
	for range 100000 {
		v := int64(drawnM(rnd))
		asksOf(t, v)
		asksOf(t, -v)
		asksOf(t, int64(rnd.Uint64())>>rnd.Intn(64))
	}
}

// Of of what Whole tells is the pattern, but of the nought with a sign.
func TestOfWhatWholeTells(t *testing.T) {
	rnd := rand.New(rand.NewSource(117))
	list := append(patterns(), few()...)
	for range 50000 {
		list = append(list, drawn(rnd))
	}
	for _, b := range list {
		v, ok := dbl.Whole(b)
		if !ok {
			continue
		}
		if b == sign {
			b = 0
		}
		becomes(t, v, b)
	}
}

// Whole of what Of tells is the number.
func TestWholeOfWhatOfTells(t *testing.T) {
	rnd := rand.New(rand.NewSource(118))
	list := slices.Clone(ints)
	for range 50000 {
		list = append(list, int64(drawnM(rnd)), -int64(drawnM(rnd)))
	}
	for _, v := range list {
		if b, ok := dbl.Of(v); ok {
			isWhole(t, b, v)
		}
	}
}

// P11.3

func TestJoinOfWhatSplitTells(t *testing.T) {
	rnd := rand.New(rand.NewSource(119))
	list := append(patterns(), few()...)
	for range 100000 {
		list = append(list, drawn(rnd), rnd.Uint64())
	}
	for _, b := range list {
		comesBack(t, b)
	}
}

// The same number with noughts at m's end, or with fewer of them, is the same pattern.
func TestJoinOfTheSameNumber(t *testing.T) {
	for _, b := range few() {
		kind, neg, m, e := dbl.Split(b)
		if kind != dbl.Finite {
			continue
		}
		for n := range 64 {
			if m<<n>>n == m {
				joins(t, neg, m<<n, e-n, b)
			}
			if m>>n<<n == m {
				joins(t, neg, m>>n, e+n, b)
			}
		}
	}
}

// R1, R5: no call panics, and each one answers as it did before, whatever was asked between.
func TestCallsOfAny(t *testing.T) {
	rnd := rand.New(rand.NewSource(120))
	for range 50000 {
		a, b := rnd.Uint64(), drawn(rnd)
		m, e := drawnM(rnd), int(rnd.Uint64())>>rnd.Intn(64)
		first := answers(a, b, m, e)
		answers(b, rnd.Uint64(), rnd.Uint64(), rnd.Intn(2400)-1200)
		if again := answers(a, b, m, e); again != first {
			t.Errorf("%x, %x, %x, %d: %s, and then %s", a, b, m, e, first, again)
		}
	}
	hasNone(t, false, 1, math.MaxInt)
	hasNoOrder(t, nan, 0)
	isNotWhole(t, inf)
	isNone(t, math.MaxInt64)
	joins(t, true, 1, 0, sign|one)
	compares(t, one, 0, 1)
	isWhole(t, sign|one, -1)
	becomes(t, 1, one)
}

// answers are those of all calls, as a text.
func answers(a, b, m uint64, e int) string {
	kind, neg, gotM, gotE := dbl.Split(a)
	pattern, joined := dbl.Join(neg, m, e)
	order, ordered := dbl.Cmp(a, b)
	v, whole := dbl.Whole(b)
	of, is := dbl.Of(int64(m))
	return fmt.Sprint(kind, neg, gotM, gotE, pattern, joined, order, ordered, v, whole, of, is)
}
