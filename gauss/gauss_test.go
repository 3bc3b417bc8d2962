package gauss_test

import (
	"math"
	"math/big"
	"math/rand"
	"testing"

	"propylon/gauss"
)

// The greatest parts of small ones, and of whole ones.
const (
	small = 1 << 25
	whole = 1 << 52
)

// ints are parts that Of may be asked for: those at its bounds, and such as are a small part in their lowest bits.
var ints = []int{
	0, 1, 2, 3, 7, 1000, small - 2, small - 1, small, small + 1, small + 2, 1 << 26, 1 << 31, 1<<32 - 1, 1 << 32, 1<<32 + 1, 1<<32 + small, 1<<51 + 1, whole, whole + 1, 1 << 53, 1<<53 + 1, 1<<62 + 1, math.MaxInt - 1, math.MaxInt,
	-1, -2, -3, -7, -1000, -small + 2, -small + 1, -small, -small - 1, -small - 2, -1 << 26, -1 << 31, -1<<32 + 1, -1 << 32, -1<<32 - 1, -1<<32 - small, -1<<51 - 1, -whole, -whole - 1, -1 << 53, -1<<53 - 1, -1<<62 - 1, math.MinInt + 1, math.MinInt,
}

// turns are numbers of turns, also such as are great, and below 0.
var turns = []int{
	0, 1, 2, 3, 4, 5, 6, 7, 8, 9, 1<<32 - 1, 1 << 32, 1<<32 + 1, 1<<32 + 2, 1<<53 + 1, 1<<62 + 3, math.MaxInt - 3, math.MaxInt - 2, math.MaxInt - 1, math.MaxInt,
	-1, -2, -3, -4, -5, -6, -7, -8, -9, -1<<32 - 1, -1 << 32, -1<<32 + 1, -1<<53 - 1, math.MinInt + 3, math.MinInt + 2, math.MinInt + 1, math.MinInt,
}

// doubles are parts at the bounds, between whole numbers, and such as no number has.
func doubles() []float64 {
	all := []float64{
		0, math.Copysign(0, -1), math.NaN(), math.Float64frombits(0x7ff0000000000001), math.Float64frombits(0xffffffffffffffff), math.Inf(1), math.Inf(-1),
	}
	for _, x := range []float64{
		1, 2, 3, 1000, small - 1, small, small + 1, 1 << 26, 1 << 31, 1 << 32, 1<<51 + 1, whole - 1, whole, whole + 1, 1<<53 - 1, 1 << 53, 1 << 54, 1 << 62, 1 << 63, 1 << 64, 1e300, math.MaxFloat64,
		0.5, 1.5, 2.5, 0.1, 1e-9, small - 0.5, small + 0.5, whole - 0.5, whole - 1.5, 1<<51 + 0.5, math.SmallestNonzeroFloat64, 0x1p-1022,
	} {
		for _, y := range []float64{x, math.Nextafter(x, 0), math.Nextafter(x, math.Inf(1))} {
			all = append(all, y, -y)
		}
	}
	return all
}

// numbers are all numbers of two of the doubles.
func numbers() []complex128 {
	var all []complex128
	for _, re := range doubles() {
		for _, im := range doubles() {
			all = append(all, complex(re, im))
		}
	}
	return all
}

// few are numbers of which every two may be held against each other: with small parts, with whole ones, and with others.
func few() []complex128 {
	parts := []float64{
		0, math.Copysign(0, -1), 1, -1, 2, -3, small - 1, -small + 1, small, -small, small + 1, -small - 1, whole, -whole, whole + 1, -whole - 1, 1 << 53,
		0.5, -2.5, math.Nextafter(1, 0), math.Nextafter(1, 2), math.Nextafter(small, 0), math.Nextafter(small, whole), math.SmallestNonzeroFloat64, math.MaxFloat64, -math.MaxFloat64, math.NaN(), math.Inf(1), math.Inf(-1),
	}
	var all []complex128
	for _, re := range parts {
		for _, im := range parts {
			all = append(all, complex(re, im))
		}
	}
	return all
}

// exact says by fractions, not by doubles, whether x is whole and within a bound, and which number it is.
func exact(x float64, most int64) (int, bool) {
	r := new(big.Rat).SetFloat64(x)
	if r == nil || !r.IsInt() || new(big.Int).Abs(r.Num()).Cmp(big.NewInt(most)) > 0 {
		return 0, false
	}
	return int(r.Num().Int64()), true
}

// partsOf is exact of both parts.
func partsOf(z complex128, most int64) (re, im int, ok bool) {
	re, first := exact(real(z), most)
	im, second := exact(imag(z), most)
	if !first || !second {
		return 0, 0, false
	}
	return re, im, true
}

// is leaves out the sign of a part that is 0: it is not asked.
func is(z complex128, re, im int) bool {
	return real(z) == float64(re) && imag(z) == float64(im)
}

// isSmall tells which parts Of takes.
func isSmall(re, im int) bool {
	return re >= -small && re <= small && im >= -small && im <= small
}

// drawn is a part of any length, half of the time next to a power of 2.
func drawn(rnd *rand.Rand, bits int) int {
	n := 1 << rnd.Intn(bits+1)
	x := rnd.Intn(n + 1)
	if rnd.Intn(2) == 0 {
		x = n - rnd.Intn(min(n, 3))
	}
	if rnd.Intn(2) == 0 {
		x = -x
	}
	return x
}

// drawnSmall is a small one with parts of any length.
func drawnSmall(rnd *rand.Rand, bits int) complex128 {
	return gauss.Of(drawn(rnd, bits), drawn(rnd, bits))
}

func makes(t *testing.T, re, im, wantRe, wantIm int) {
	t.Helper()
	if z := gauss.Of(re, im); !is(z, wantRe, wantIm) {
		t.Errorf("Of(%d, %d): %v, not %d, %d", re, im, z, wantRe, wantIm)
	}
}

func parts(t *testing.T, z complex128, wantRe, wantIm int, want bool) {
	t.Helper()
	if re, im, ok := gauss.Parts(z); re != wantRe || im != wantIm || ok != want {
		t.Errorf("Parts(%v): %d, %d, %v, not %d, %d, %v", z, re, im, ok, wantRe, wantIm, want)
	}
}

func turnsTo(t *testing.T, z complex128, k, re, im int) {
	t.Helper()
	if got := gauss.Turn(z, k); !is(got, re, im) {
		t.Errorf("Turn(%v, %d): %v, not %d, %d", z, k, got, re, im)
	}
}

func multiplies(t *testing.T, z, w complex128, re, im int) {
	t.Helper()
	if p := gauss.Times(z, w); !is(p, re, im) {
		t.Errorf("Times(%v, %v): %v, not %d, %d", z, w, p, re, im)
	}
}

func measures(t *testing.T, z complex128, want int) {
	t.Helper()
	if n := gauss.Norm(z); n != want {
		t.Errorf("Norm(%v): %d, not %d", z, n, want)
	}
}

func divides(t *testing.T, z, w complex128, re, im int) {
	t.Helper()
	if q, ok := gauss.Quo(z, w); !is(q, re, im) || !ok {
		t.Errorf("Quo(%v, %v): %v, %v, not %d, %d, true", z, w, q, ok, re, im)
	}
}

// hasNone also holds R2: with false there is 0.
func hasNone(t *testing.T, z, w complex128) {
	t.Helper()
	if q, ok := gauss.Quo(z, w); q != 0 || ok {
		t.Errorf("Quo(%v, %v): %v, %v, not 0, false", z, w, q, ok)
	}
}

func same(t *testing.T, what string, z, w complex128) {
	t.Helper()
	if z != w {
		t.Errorf("%s: %v is not %v", what, z, w)
	}
}

// P7.1: Of

func TestOfAtEdges(t *testing.T) {
	for _, c := range []struct{ re, im, wantRe, wantIm int }{
		{0, 0, 0, 0}, {1, 0, 1, 0}, {0, 1, 0, 1}, {-1, 0, -1, 0}, {0, -1, 0, -1}, {1, 2, 1, 2}, {-5, 7, -5, 7},
		{33554431, 5, 33554431, 5}, {33554432, 5, 33554432, 5}, {5, 33554431, 5, 33554431}, {5, 33554432, 5, 33554432}, {-33554431, 5, -33554431, 5}, {-33554432, 5, -33554432, 5}, {5, -33554431, 5, -33554431}, {5, -33554432, 5, -33554432},
		{33554432, 33554432, 33554432, 33554432}, {-33554432, 33554432, -33554432, 33554432}, {33554432, -33554432, 33554432, -33554432}, {-33554432, -33554432, -33554432, -33554432},
		{33554433, 5, 0, 0}, {5, 33554433, 0, 0}, {-33554433, 5, 0, 0}, {5, -33554433, 0, 0}, {33554433, 33554433, 0, 0}, {33554433, 0, 0, 0}, {0, -33554433, 0, 0}, {33554432, -33554433, 0, 0},
		{math.MaxInt, 1, 0, 0}, {1, math.MaxInt, 0, 0}, {math.MinInt, 1, 0, 0}, {1, math.MinInt, 0, 0}, {math.MinInt, math.MaxInt, 0, 0}, {math.MinInt, math.MinInt, 0, 0}, {1 << 32, 1 << 32, 0, 0}, {1<<32 + 7, 7, 0, 0}, {7, -1<<32 + 7, 0, 0},
	} {
		makes(t, c.re, c.im, c.wantRe, c.wantIm)
	}
}

func TestOfEachTwo(t *testing.T) {
	for _, re := range ints {
		for _, im := range ints {
			if isSmall(re, im) {
				makes(t, re, im, re, im)
				parts(t, gauss.Of(re, im), re, im, true)
			} else {
				makes(t, re, im, 0, 0)
			}
		}
	}
}

// P7.1: Parts

func TestPartsAtEdges(t *testing.T) {
	nought, least := math.Copysign(0, -1), math.SmallestNonzeroFloat64
	for _, c := range []struct {
		z      complex128
		re, im int
		ok     bool
	}{
		{0, 0, 0, true}, {complex(nought, 0), 0, 0, true}, {complex(0, nought), 0, 0, true}, {complex(nought, nought), 0, 0, true}, {complex(nought, 7), 0, 7, true}, {complex(-7, nought), -7, 0, true},
		{1, 1, 0, true}, {-1, -1, 0, true}, {1i, 0, 1, true}, {-1i, 0, -1, true}, {3 - 4i, 3, -4, true}, {complex(small+1, -small-1), small + 1, -small - 1, true},
		{complex(4503599627370495, 1), 4503599627370495, 1, true}, {complex(4503599627370496, 1), 4503599627370496, 1, true}, {complex(1, 4503599627370496), 1, 4503599627370496, true}, {complex(-4503599627370496, 1), -4503599627370496, 1, true}, {complex(1, -4503599627370496), 1, -4503599627370496, true}, {complex(whole, -whole), whole, -whole, true}, {complex(-whole, whole), -whole, whole, true},
		{complex(4503599627370497, 1), 0, 0, false}, {complex(1, 4503599627370497), 0, 0, false}, {complex(-4503599627370497, 1), 0, 0, false}, {complex(1, -4503599627370497), 0, 0, false}, {complex(9007199254740992, 1), 0, 0, false}, {complex(1, -9007199254740992), 0, 0, false}, {complex(1<<63, 1), 0, 0, false}, {complex(-1<<63, 1), 0, 0, false}, {complex(1, 1<<64), 0, 0, false},
		{0.5, 0, 0, false}, {0.5i, 0, 0, false}, {complex(2, -0.5), 0, 0, false}, {complex(-1.5, 2), 0, 0, false}, {complex(2, 4503599627370495.5), 0, 0, false}, {complex(4503599627370495.5, 2), 0, 0, false}, {complex(math.Nextafter(3, 2), 1), 0, 0, false}, {complex(math.Nextafter(3, 4), 1), 0, 0, false}, {complex(1, math.Nextafter(-3, 0)), 0, 0, false}, {complex(1, math.Nextafter(-3, -4)), 0, 0, false},
		{complex(least, 3), 0, 0, false}, {complex(3, least), 0, 0, false}, {complex(-least, 3), 0, 0, false}, {complex(3, -least), 0, 0, false}, {complex(math.MaxFloat64, 3), 0, 0, false}, {complex(3, math.MaxFloat64), 0, 0, false}, {complex(-math.MaxFloat64, 3), 0, 0, false}, {complex(3, -math.MaxFloat64), 0, 0, false},
		{complex(math.NaN(), 3), 0, 0, false}, {complex(3, math.NaN()), 0, 0, false}, {complex(math.NaN(), math.NaN()), 0, 0, false}, {complex(math.Inf(1), 3), 0, 0, false}, {complex(3, math.Inf(1)), 0, 0, false}, {complex(math.Inf(-1), 3), 0, 0, false}, {complex(3, math.Inf(-1)), 0, 0, false}, {complex(math.Inf(1), math.NaN()), 0, 0, false}, {complex(math.NaN(), math.Inf(-1)), 0, 0, false},
	} {
		parts(t, c.z, c.re, c.im, c.ok)
	}
}

func TestPartsOfEachTwo(t *testing.T) {
	for _, z := range numbers() {
		re, im, ok := partsOf(z, whole)
		parts(t, z, re, im, ok)
	}
}

func TestPartsOfAny(t *testing.T) {
	rnd := rand.New(rand.NewSource(71))
	for range 50000 {
		re, im := drawn(rnd, 52), drawn(rnd, 52)
		parts(t, complex(float64(re), float64(im)), re, im, true)
		z := complex(math.Float64frombits(rnd.Uint64()), float64(im))
		re, im, ok := partsOf(z, whole)
		parts(t, z, re, im, ok)
		parts(t, complex(imag(z), real(z)), im, re, ok)
	}
}

// P7.1: Turn

func TestTurnAtEdges(t *testing.T) {
	for _, c := range []struct {
		z         complex128
		k, re, im int
	}{
		{1, -1, 0, -1}, {1, 0, 1, 0}, {1, 1, 0, 1}, {1, 2, -1, 0}, {1, 3, 0, -1}, {1i, 1, -1, 0}, {1i, -1, 1, 0}, {0, 1, 0, 0}, {0, 2, 0, 0}, {0, -1, 0, 0},
		{2 + 3i, 0, 2, 3}, {2 + 3i, 1, -3, 2}, {2 + 3i, 2, -2, -3}, {2 + 3i, 3, 3, -2}, {2 + 3i, 4, 2, 3}, {2 + 3i, 5, -3, 2}, {2 + 3i, 6, -2, -3}, {2 + 3i, 7, 3, -2}, {2 + 3i, 8, 2, 3},
		{2 + 3i, -1, 3, -2}, {2 + 3i, -2, -2, -3}, {2 + 3i, -3, -3, 2}, {2 + 3i, -4, 2, 3}, {2 + 3i, -5, 3, -2}, {2 + 3i, -6, -2, -3}, {2 + 3i, -7, -3, 2}, {2 + 3i, -8, 2, 3},
		{2 + 3i, math.MaxInt, 3, -2}, {2 + 3i, math.MaxInt - 1, -2, -3}, {2 + 3i, math.MaxInt - 2, -3, 2}, {2 + 3i, math.MaxInt - 3, 2, 3}, {2 + 3i, math.MinInt, 2, 3}, {2 + 3i, math.MinInt + 1, -3, 2}, {2 + 3i, math.MinInt + 2, -2, -3}, {2 + 3i, math.MinInt + 3, 3, -2}, {2 + 3i, 1<<53 + 1, -3, 2}, {2 + 3i, -1<<53 - 1, 3, -2},
		{complex(small+1, 2), 1, -2, small + 1}, {complex(2, -small-1), 1, small + 1, 2}, {complex(whole, whole-1), 1, -whole + 1, whole}, {complex(whole, whole-1), 2, -whole, -whole + 1}, {complex(whole, whole-1), 3, whole - 1, -whole}, {complex(whole, -whole), 0, whole, -whole}, {complex(-whole, 1), -1, 1, whole},
	} {
		turnsTo(t, c.z, c.k, c.re, c.im)
	}
}

func TestTurnOfWhatIsNotWhole(t *testing.T) {
	for _, z := range numbers() {
		if _, _, ok := partsOf(z, whole); !ok {
			for _, k := range []int{0, 1, 2, 3, -1, math.MaxInt, math.MinInt} {
				turnsTo(t, z, k, 0, 0)
			}
		}
	}
}

// turnedBySteps goes the shortest way: a quarter at a time.
func turnedBySteps(re, im, k int) (int, int) {
	for range (k%4 + 4) % 4 {
		re, im = -im, re
	}
	return re, im
}

func TestTurnByEachNumber(t *testing.T) {
	rnd := rand.New(rand.NewSource(72))
	for range 500 {
		re, im := drawn(rnd, 52), drawn(rnd, 52)
		z := complex(float64(re), float64(im))
		for _, k := range turns {
			wantRe, wantIm := turnedBySteps(re, im, k)
			turnsTo(t, z, k, wantRe, wantIm)
		}
		for k := -30; k <= 30; k++ {
			wantRe, wantIm := turnedBySteps(re, im, k)
			turnsTo(t, z, k, wantRe, wantIm)
		}
	}
}

// P7.1: Times and Norm

func TestTimesAtEdges(t *testing.T) {
	for _, c := range []struct {
		z, w   complex128
		re, im int
	}{
		{1 + 2i, 3 - 1i, 5, 5}, {0, 0, 0, 0}, {0, 5 + 7i, 0, 0}, {0, complex(small, small), 0, 0}, {1, 5 + 7i, 5, 7}, {-1, 5 + 7i, -5, -7}, {1i, 5 + 7i, -7, 5}, {-1i, 5 + 7i, 7, -5}, {1i, 1i, -1, 0}, {1 + 1i, 1 - 1i, 2, 0}, {1 + 1i, 1 + 1i, 0, 2}, {2 + 3i, 5 + 7i, -11, 29}, {2 - 3i, -5 + 7i, 11, 29},
		{complex(small, small), complex(small, -small), 1 << 51, 0}, {complex(small, small), complex(small, small), 0, 1 << 51}, {complex(small, small), complex(-small, small), -1 << 51, 0}, {complex(small, -small), complex(small, -small), 0, -1 << 51}, {complex(small, 0), complex(small, 0), 1 << 50, 0}, {complex(0, small), complex(0, small), -1 << 50, 0},
		{complex(small, small-1), complex(small-1, -small), 2251799746576384, -67108863}, {complex(small-1, small), complex(small-1, small), -67108863, 2251799746576384}, {complex(small-1, small-1), complex(small-1, 1-small), 2251799679467522, 0}, {complex(small, 1), complex(small, 1), 1125899906842623, 67108864},
	} {
		multiplies(t, c.z, c.w, c.re, c.im)
		multiplies(t, c.w, c.z, c.re, c.im)
	}
}

func TestTimesOfWhatIsNotSmall(t *testing.T) {
	for _, z := range numbers() {
		if _, _, ok := partsOf(z, small); ok {
			continue
		}
		for _, w := range []complex128{0, 1, 1i, 2 - 3i, complex(small, -small), z} {
			multiplies(t, z, w, 0, 0)
			multiplies(t, w, z, 0, 0)
			hasNone(t, z, w)
			hasNone(t, w, z)
		}
		measures(t, z, 0)
	}
}

// Every two, whatever they are: this holds R1 too.
func TestTimesOfEachTwo(t *testing.T) {
	for _, z := range few() {
		a, b, first := partsOf(z, small)
		for _, w := range few() {
			c, d, second := partsOf(w, small)
			if first && second {
				multiplies(t, z, w, a*c-b*d, a*d+b*c)
			} else {
				multiplies(t, z, w, 0, 0)
				hasNone(t, z, w)
			}
		}
	}
}

func TestTimesOfAny(t *testing.T) {
	rnd := rand.New(rand.NewSource(73))
	for range 50000 {
		a, b, c, d := drawn(rnd, 25), drawn(rnd, 25), drawn(rnd, 25), drawn(rnd, 25)
		multiplies(t, gauss.Of(a, b), gauss.Of(c, d), a*c-b*d, a*d+b*c)
	}
}

func TestNormAtEdges(t *testing.T) {
	for _, c := range []struct {
		z    complex128
		want int
	}{
		{0, 0}, {complex(math.Copysign(0, -1), math.Copysign(0, -1)), 0}, {1, 1}, {-1, 1}, {1i, 1}, {-1i, 1}, {1 + 1i, 2}, {3 + 4i, 25}, {3 - 4i, 25}, {-3 + 4i, 25}, {-3 - 4i, 25}, {2 + 1i, 5},
		{complex(small, 0), 1 << 50}, {complex(0, -small), 1 << 50}, {complex(small, small), 1 << 51}, {complex(-small, small), 1 << 51}, {complex(small, -small), 1 << 51}, {complex(-small, -small), 1 << 51}, {complex(small-1, small), 2251799746576385}, {complex(small, 1), 1125899906842625}, {complex(small-1, 0), 1125899839733761},
		{complex(small+1, 0), 0}, {complex(0, small+1), 0}, {complex(-small-1, 3), 0}, {complex(3, -small-1), 0}, {complex(whole, 1), 0}, {complex(1, 1<<53), 0}, {0.5, 0}, {complex(3, 4.5), 0}, {complex(math.NaN(), 3), 0}, {complex(3, math.NaN()), 0}, {complex(math.Inf(1), 3), 0}, {complex(3, math.Inf(-1)), 0}, {complex(math.MaxFloat64, 3), 0}, {complex(3, math.SmallestNonzeroFloat64), 0},
	} {
		measures(t, c.z, c.want)
	}
}

func TestNormOfEachTwo(t *testing.T) {
	rnd := rand.New(rand.NewSource(74))
	all := numbers()
	for range 50000 {
		all = append(all, drawnSmall(rnd, 25))
	}
	for _, z := range all {
		re, im, _ := partsOf(z, small)
		measures(t, z, re*re+im*im)
	}
}

// P7.1: Quo

func TestQuoAtEdges(t *testing.T) {
	for _, c := range []struct {
		z, w   complex128
		re, im int
	}{
		{5 + 5i, 1 + 2i, 3, -1}, {5 + 5i, 3 - 1i, 1, 2}, {5, 2 + 1i, 2, -1}, {2, 1 + 1i, 1, -1}, {2i, 1 + 1i, 1, 1}, {6 + 4i, -2, -3, -2}, {6 + 4i, 2i, 2, -3}, {6 + 4i, -2i, -2, 3}, {25, 3 + 4i, 3, -4}, {-11 + 29i, 2 + 3i, 5, 7},
		{7 - 9i, 1, 7, -9}, {7 - 9i, -1, -7, 9}, {7 - 9i, 1i, -9, -7}, {7 - 9i, -1i, 9, 7}, {7 - 9i, 7 - 9i, 1, 0}, {7 - 9i, -7 + 9i, -1, 0}, {7 - 9i, 9 + 7i, 0, -1},
		{0, 1, 0, 0}, {0, 3i, 0, 0}, {0, 5 - 7i, 0, 0}, {0, complex(small, -small), 0, 0}, {complex(math.Copysign(0, -1), 0), 2, 0, 0}, {complex(0, math.Copysign(0, -1)), -2i, 0, 0}, {4, complex(2, math.Copysign(0, -1)), 2, 0},
		{complex(small, small), 1, small, small}, {complex(small, -small), 1i, -small, -small}, {complex(small, small), complex(small, small), 1, 0}, {complex(small, small), complex(small, -small), 0, 1}, {complex(small, small), 1 + 1i, small, 0}, {complex(small, -small), 1 + 1i, 0, -small}, {complex(small, 0), 1 + 1i, small / 2, -small / 2}, {complex(small, small), complex(small, 0), 1, 1}, {complex(33554431, 0), 31, 1082401, 0}, {complex(-small, small), complex(1<<12, 1<<12), 0, 1 << 13},
	} {
		divides(t, c.z, c.w, c.re, c.im)
	}
}

func TestQuoWithoutOne(t *testing.T) {
	for _, c := range [][2]complex128{
		{5, 2}, {1, 1 + 1i}, {1i, 1 + 1i}, {1, 2}, {1, 2i}, {1, complex(small, small)}, {3 + 4i, 5}, {5, 3 + 3i}, {7 + 1i, 2 + 3i}, {complex(small, small), 3}, {complex(small, small), complex(small-1, small)}, {complex(small, small), complex(small, small-1)}, {complex(small-1, small), complex(small, small)}, {complex(small, 1), complex(small, 0)},
		{2 + 1i, 2}, {1 + 2i, 2}, {4 + 3i, 2i}, {3 + 4i, 2i}, {1 + 3i, 2 + 2i}, {-1 + 3i, 2 + 2i}, {3 + 4i, 4 + 2i}, {2 + 5i, 6 + 2i}, {complex(small, 1), 2}, {complex(1, small), 2}, {complex(small, small-1), small}, {complex(1-small, small), complex(0, small)}, // one part alone is not whole
		{0, 0}, {1, 0}, {5 + 7i, 0}, {complex(small, small), 0}, {7, complex(math.Copysign(0, -1), math.Copysign(0, -1))}, {0, complex(0, math.Copysign(0, -1))},
		{complex(small+1, 0), 1}, {complex(0, -small-1), 1}, {1, complex(small+1, 0)}, {complex(small+1, 0), complex(small+1, 0)}, {0, complex(small+1, 0)}, {0, complex(0, -small-1)}, {complex(1<<26, 0), 2}, {complex(whole, 0), complex(small, 0)}, {0.5, 0.5}, {1, 0.5}, {0.5, 1}, {0, 0.5}, {complex(1.5, 3), complex(0.5, 1)}, {3 + 4.5i, 1.5i},
		{complex(math.NaN(), 1), 1}, {complex(1, math.NaN()), 1}, {1, complex(math.NaN(), 1)}, {1, complex(1, math.NaN())}, {complex(math.Inf(1), 0), 1}, {1, complex(math.Inf(1), 0)}, {0, complex(0, math.Inf(-1))}, {complex(0, math.Inf(-1)), complex(0, math.Inf(-1))}, {math.MaxFloat64, math.MaxFloat64}, {math.SmallestNonzeroFloat64, math.SmallestNonzeroFloat64},
	} {
		hasNone(t, c[0], c[1])
	}
}

// The products of w with all numbers that could be quotients say which z has one.
func TestQuoOfEachTwoOfFewParts(t *testing.T) {
	const most, far = 12, 17 // 12 times the root of 2 is below 17
	for c := -6; c <= 6; c++ {
		for d := -6; d <= 6; d++ {
			if c == 0 && d == 0 {
				continue
			}
			quotients := map[[2]int][2]int{}
			for a := -far; a <= far; a++ {
				for b := -far; b <= far; b++ {
					quotients[[2]int{a*c - b*d, a*d + b*c}] = [2]int{a, b}
				}
			}
			for x := -most; x <= most; x++ {
				for y := -most; y <= most; y++ {
					z, w := gauss.Of(x, y), gauss.Of(c, d)
					if q, ok := quotients[[2]int{x, y}]; ok {
						divides(t, z, w, q[0], q[1])
					} else {
						hasNone(t, z, w)
					}
				}
			}
		}
	}
}

// What is multiplied is divided back; next to it, nearer than w is long, nothing else is a product with w.
func TestQuoOfProducts(t *testing.T) {
	rnd := rand.New(rand.NewSource(75))
	found := 0
	for range 100000 {
		bits := rnd.Intn(26)
		a, b, c, d := drawn(rnd, bits), drawn(rnd, bits), drawn(rnd, 25-bits), drawn(rnd, 25-bits)
		x, y := a*c-b*d, a*d+b*c
		if !isSmall(x, y) || c == 0 && d == 0 {
			continue
		}
		found++
		divides(t, gauss.Of(x, y), gauss.Of(c, d), a, b)
		for _, off := range [][2]int{{1, 0}, {-1, 0}, {0, 1}, {0, -1}, {drawn(rnd, 25-bits) / 2, drawn(rnd, 25-bits) / 2}} {
			length := off[0]*off[0] + off[1]*off[1]
			if length > 0 && length < c*c+d*d && isSmall(x+off[0], y+off[1]) {
				hasNone(t, gauss.Of(x+off[0], y+off[1]), gauss.Of(c, d))
			}
		}
	}
	if found < 10000 {
		t.Errorf("%d products alone are small", found)
	}
}

// Any two small ones: a quotient there is times w is z again.
func TestQuoOfAny(t *testing.T) {
	rnd := rand.New(rand.NewSource(76))
	for range 100000 {
		a, b, c, d := drawn(rnd, 25), drawn(rnd, 25), drawn(rnd, 1+rnd.Intn(25)), drawn(rnd, 1+rnd.Intn(25))
		n := c*c + d*d
		if n == 0 {
			continue
		}
		z, w := gauss.Of(a, b), gauss.Of(c, d)
		re, im := a*c+b*d, b*c-a*d
		if re%n != 0 || im%n != 0 {
			hasNone(t, z, w)
			continue
		}
		divides(t, z, w, re/n, im/n)
		q, _ := gauss.Quo(z, w)
		same(t, "a quotient times its divisor", gauss.Times(q, w), z)
	}
}

// P7.2

// lawNumbers are small ones whose products of three are small, or not, by turns.
func lawNumbers() []complex128 {
	rnd := rand.New(rand.NewSource(77))
	all := []complex128{0, 1, -1, 1i, -1i, 1 + 1i, complex(small, small), complex(-small, small-1), complex(1-small, -small), complex(small, 0), complex(0, -small)}
	for range 120 {
		all = append(all, drawnSmall(rnd, rnd.Intn(26)))
	}
	return all
}

func TestProductsAndTurnsGoTogether(t *testing.T) {
	for _, z := range lawNumbers() {
		same(t, "a turn is a product with i", gauss.Turn(z, 1), gauss.Times(z, 1i))
		for _, w := range lawNumbers() {
			p := gauss.Times(z, w)
			same(t, "a product the other way round", p, gauss.Times(w, z))
			for _, k := range []int{1, 2, 3, -1, 6, math.MaxInt, math.MinInt} {
				same(t, "a turned product", gauss.Turn(p, k), gauss.Times(gauss.Turn(z, k), w))
				same(t, "a product with a turned one", gauss.Turn(p, k), gauss.Times(z, gauss.Turn(w, k)))
				same(t, "a product of two turned ones", gauss.Turn(p, k), gauss.Times(gauss.Turn(z, k+5), gauss.Turn(w, -5)))
			}
		}
	}
}

// Where a sum of turns is beyond an int it wraps round by 2^64, which is no turn at all.
func TestTurnsAreOne(t *testing.T) {
	for _, z := range append(lawNumbers(), complex(whole, 1-whole), complex(-whole, 7)) {
		for _, k := range turns {
			for _, m := range turns {
				same(t, "two turns", gauss.Turn(gauss.Turn(z, k), m), gauss.Turn(z, k+m))
			}
			same(t, "there and back", gauss.Turn(gauss.Turn(z, k), -k), z)
			if gauss.Norm(gauss.Turn(z, k)) != gauss.Norm(z) {
				t.Errorf("Norm(Turn(%v, %d)): %d, not %d", z, k, gauss.Norm(gauss.Turn(z, k)), gauss.Norm(z))
			}
		}
	}
}

func TestProductsOfThreeAndOfSums(t *testing.T) {
	rnd := rand.New(rand.NewSource(78))
	for range 20000 {
		u, v, w := drawnSmall(rnd, 7), drawnSmall(rnd, 7), drawnSmall(rnd, 7)
		same(t, "a product of three", gauss.Times(gauss.Times(u, v), w), gauss.Times(u, gauss.Times(v, w)))
		a, b, c := drawnSmall(rnd, 24), drawnSmall(rnd, 24), drawnSmall(rnd, 25)
		same(t, "a product with a sum", gauss.Times(a+b, c), gauss.Times(a, c)+gauss.Times(b, c))
	}
}

func TestNormOfProducts(t *testing.T) {
	rnd := rand.New(rand.NewSource(79))
	found := 0
	for range 100000 {
		bits := rnd.Intn(26)
		z, w := drawnSmall(rnd, bits), drawnSmall(rnd, 25-bits)
		p := gauss.Times(z, w)
		if re, im, ok := gauss.Parts(p); !ok || !isSmall(re, im) {
			continue
		}
		found++
		if gauss.Norm(p) != gauss.Norm(z)*gauss.Norm(w) {
			t.Errorf("Norm(%v times %v): %d, not %d", z, w, gauss.Norm(p), gauss.Norm(z)*gauss.Norm(w))
		}
	}
	if found < 10000 {
		t.Errorf("%d products alone are small", found)
	}
	measures(t, gauss.Times(complex(small, 0), 1+1i), 1<<51)
	measures(t, gauss.Times(complex(1<<12, 1<<12), complex(1<<12, 1<<12)), 1<<50)
	measures(t, gauss.Times(complex(small, small), 1+1i), 0)
}

// R1, R5: no call panics, and each one answers as it did before, whatever was asked between.
func TestEveryCallAtEveryNumber(t *testing.T) {
	for _, z := range numbers() {
		re, im, ok := gauss.Parts(z)
		n := gauss.Norm(z)
		for _, w := range []complex128{0, 1, 1 + 1i, complex(small, 1), complex(math.NaN(), math.Inf(1)), complex(math.MaxFloat64, -math.MaxFloat64), z} {
			p := gauss.Times(z, w)
			q, ok := gauss.Quo(z, w)
			for _, k := range []int{0, 1, math.MaxInt, math.MinInt} {
				same(t, "Turn again", gauss.Turn(z, k), gauss.Turn(z, k))
			}
			same(t, "Times again", p, gauss.Times(z, w))
			again, okAgain := gauss.Quo(z, w)
			same(t, "Quo again", q, again)
			if ok != okAgain || !ok && q != 0 {
				t.Errorf("Quo(%v, %v): %v, %v, and %v, %v", z, w, q, ok, again, okAgain)
			}
		}
		parts(t, z, re, im, ok)
		measures(t, z, n)
	}
}
