package wave_test

import (
	"math"
	"math/big"
	"math/rand"
	"slices"
	"testing"

	"propylon/api"
	"propylon/wave"
)

// The greatest part of a fit one, and the greatest number of a list.
const (
	most  = 1 << 50
	digit = 65535
)

var nought = math.Copysign(0, -1)

// none is what is answered where there is nothing.
var none [4]complex128

// whole are parts of four whole numbers: first parts and second parts in turn.
type whole [8]int

// four has the numbers of these parts.
func (p whole) four() [4]complex128 {
	var l [4]complex128
	for j := range l {
		l[j] = complex(float64(p[2*j]), float64(p[2*j+1]))
	}
	return l
}

// values are the sums that the chapter names, written out: l0, l1, l2, l3 times 1 1 1 1, 1 i -1 -i, 1 -1 1 -1, 1 -i -1 i.
func (p whole) values() whole {
	a, b, c, d, e, f, g, h := p[0], p[1], p[2], p[3], p[4], p[5], p[6], p[7]
	return whole{
		a + c + e + g, b + d + f + h,
		a - d - e + h, b + c - f - g,
		a - c + e - g, b - d + f - h,
		a + d - e - h, b - c - f + g,
	}
}

// modulo4 is how the parts are modulo 4, from 0 to 3, as one number.
func (p whole) modulo4() int {
	n := 0
	for _, part := range p {
		n = n<<2 | part&3
	}
	return n
}

// ofModulo4 are the parts from 0 to 3 of one number.
func ofModulo4(n int) whole {
	var p whole
	for i := range p {
		p[i] = n >> (14 - 2*i) & 3
	}
	return p
}

// fours says of all rests modulo 4 whether there are whole numbers whose values have them. (Four times any whole numbers are values: so the rests say it of all.)
func fours() []bool {
	are := make([]bool, 1<<16)
	for n := range are {
		are[ofModulo4(n).values().modulo4()] = true
	}
	return are
}

// exact says by fractions, not by doubles, whether x is whole and within the bound of fit ones, and which number it is.
func exact(x float64) (int, bool) {
	r := new(big.Rat).SetFloat64(x)
	if r == nil || !r.IsInt() || new(big.Int).Abs(r.Num()).Cmp(big.NewInt(most)) > 0 {
		return 0, false
	}
	return int(r.Num().Int64()), true
}

// partsOf is exact of all eight parts.
func partsOf(l [4]complex128) (whole, bool) {
	var p whole
	for j, z := range l {
		re, first := exact(real(z))
		im, second := exact(imag(z))
		if !first || !second {
			return whole{}, false
		}
		p[2*j], p[2*j+1] = re, im
	}
	return p, true
}

// put is l with another part at one of the eight places.
func put(l [4]complex128, at int, part float64) [4]complex128 {
	if at%2 == 0 {
		l[at/2] = complex(part, imag(l[at/2]))
	} else {
		l[at/2] = complex(real(l[at/2]), part)
	}
	return l
}

// doubles are parts at the bounds, between whole numbers, and such as no number has.
func doubles() []float64 {
	all := []float64{
		0, nought, math.NaN(), math.Float64frombits(0x7ff0000000000001), math.Float64frombits(0xffffffffffffffff), math.Inf(1), math.Inf(-1),
	}
	for _, x := range []float64{
		1, 2, 4, 1<<25 + 1, 1<<49 + 1, most - 4, most - 1, most, most + 1, most + 4, 1 << 51, 1<<52 - 1, 1 << 52, 1<<52 + 1, 1 << 53, 1 << 62, 1 << 63, 1 << 64, 1 << 66, 1e300, math.MaxFloat64,
		0.25, 0.5, 1.5, 4.5, 1e-9, most - 0.5, most + 0.5, 1<<52 - 0.5, math.SmallestNonzeroFloat64, 0x1p-1022,
	} {
		for _, y := range []float64{x, math.Nextafter(x, 0), math.Nextafter(x, math.Inf(1))} {
			all = append(all, y, -y)
		}
	}
	return all
}

// grounds are fit numbers beside which a part is put: such as have whole numbers behind them, and such as do not.
func grounds() [][4]complex128 {
	return [][4]complex128{
		{}, {1, 1, 1, 1}, {4, 8i, -12, 4 - 4i}, {1 + 2i, -3, 5i, 7 - 1i}, {complex(nought, nought), complex(nought, nought), complex(nought, nought), complex(nought, nought)},
		{complex(most, most), complex(-most, most), complex(most, -most), complex(-most, -most)},
	}
}

// drawn is a part of any length, half of the time next to a power of 2.
func drawn(rnd *rand.Rand) int {
	n := 1 << rnd.Intn(51)
	x := rnd.Intn(n + 1)
	if rnd.Intn(2) == 0 {
		x = n - rnd.Intn(min(n, 5))
	}
	if rnd.Intn(2) == 0 {
		x = -x
	}
	return x
}

// drawnWhole has eight drawn parts.
func drawnWhole(rnd *rand.Rand) whole {
	var p whole
	for i := range p {
		p[i] = drawn(rnd)
	}
	return p
}

// hasValues holds Four of l against wanted parts; signs of parts that are 0 are not asked.
func hasValues(t *testing.T, l [4]complex128, want whole) {
	t.Helper()
	if got := wave.Four(l); got != want.four() {
		t.Errorf("Four(%v): %v, not %v", l, got, want.four())
	}
}

func comesBack(t *testing.T, l [4]complex128, want whole) {
	t.Helper()
	if got, ok := wave.Back(l); got != want.four() || !ok {
		t.Errorf("Back(%v): %v, %v, not %v, true", l, got, ok, want.four())
	}
}

// hasNone also holds R2: with false there are four times 0.
func hasNone(t *testing.T, l [4]complex128) {
	t.Helper()
	if got, ok := wave.Back(l); got != none || ok {
		t.Errorf("Back(%v): %v, %v, not four times 0, false", l, got, ok)
	}
}

// looksAt holds Four and Back of any four numbers against the chapter.
func looksAt(t *testing.T, l [4]complex128, are []bool) {
	t.Helper()
	p, fit := partsOf(l)
	if !fit {
		hasValues(t, l, whole{})
		hasNone(t, l)
		return
	}
	hasValues(t, l, p.values())
	if !are[p.modulo4()] {
		hasNone(t, l)
		return
	}
	back, ok := wave.Back(l)
	parts, whole := partsOf(back)
	if !ok || !whole || parts.values() != p {
		t.Errorf("Back(%v): %v, %v, whose Four is another", l, back, ok)
	}
}

// P8.1: Four

func TestFourOfFew(t *testing.T) {
	for _, c := range []struct {
		l    [4]complex128
		want whole
	}{
		{[4]complex128{1, 0, 0, 0}, whole{1, 0, 1, 0, 1, 0, 1, 0}}, {[4]complex128{0, 1, 0, 0}, whole{1, 0, 0, 1, -1, 0, 0, -1}}, {[4]complex128{0, 0, 1, 0}, whole{1, 0, -1, 0, 1, 0, -1, 0}}, {[4]complex128{0, 0, 0, 1}, whole{1, 0, 0, -1, -1, 0, 0, 1}},
		{[4]complex128{1i, 0, 0, 0}, whole{0, 1, 0, 1, 0, 1, 0, 1}}, {[4]complex128{0, 1i, 0, 0}, whole{0, 1, -1, 0, 0, -1, 1, 0}}, {[4]complex128{0, 0, 1i, 0}, whole{0, 1, 0, -1, 0, 1, 0, -1}}, {[4]complex128{0, 0, 0, 1i}, whole{0, 1, 1, 0, 0, -1, -1, 0}},
		{[4]complex128{-1, 0, 0, 0}, whole{-1, 0, -1, 0, -1, 0, -1, 0}}, {[4]complex128{0, -1i, 0, 0}, whole{0, -1, 1, 0, 0, 1, -1, 0}}, {[4]complex128{1, 2, 3, 4}, whole{10, 0, -2, -2, -2, 0, -2, 2}}, {[4]complex128{1 + 2i, 3 + 5i, 7 + 11i, 13 + 17i}, whole{24, 35, 6, -19, -8, -9, -18, 1}},
		{[4]complex128{}, whole{}}, {[4]complex128{complex(nought, nought), complex(nought, nought), complex(nought, nought), complex(nought, nought)}, whole{}}, {[4]complex128{complex(nought, 3), 0, complex(3, nought), 0}, whole{3, 3, -3, 3, 3, 3, -3, 3}},
		{[4]complex128{most, most, most, most}, whole{1 << 52, 0, 0, 0, 0, 0, 0, 0}}, {[4]complex128{-most, -most, -most, -most}, whole{-1 << 52, 0, 0, 0, 0, 0, 0, 0}}, {[4]complex128{complex(most, most), complex(most, most), complex(most, most), complex(most, most)}, whole{1 << 52, 1 << 52, 0, 0, 0, 0, 0, 0}},
		{[4]complex128{most, complex(0, -most), -most, complex(0, most)}, whole{0, 0, 1 << 52, 0, 0, 0, 0, 0}}, {[4]complex128{most, -most, most, -most}, whole{0, 0, 0, 0, 1 << 52, 0, 0, 0}}, {[4]complex128{complex(0, most), -most, complex(0, -most), most}, whole{0, 0, 0, 0, 0, 0, 0, 1 << 52}},
		{[4]complex128{most, most - 1, most, most - 1}, whole{1<<52 - 2, 0, 0, 0, 2, 0, 0, 0}}, {[4]complex128{most, most, most, most - 1}, whole{1<<52 - 1, 0, 0, 1, 1, 0, 0, -1}}, {[4]complex128{1, -1, 0, 0}, whole{0, 0, 1, -1, 2, 0, 1, 1}}, {[4]complex128{most, -most, most - 1, 1 - most}, whole{0, 0, 1, -1, 1<<52 - 2, 0, 1, 1}},
	} {
		hasValues(t, c.l, c.want)
	}
}

// One part alone, in each of the eight places, beside others that are fit: this holds R1 too.
func TestEachPartAtEachPlace(t *testing.T) {
	are := fours()
	for _, ground := range grounds() {
		for at := range 8 {
			for _, part := range doubles() {
				looksAt(t, put(ground, at, part), are)
			}
		}
	}
}

func TestEachTwoPartsAtEachTwoPlaces(t *testing.T) {
	are := fours()
	parts := []float64{0, nought, 1, -1, 2, most - 1, 1 - most, most, -most, most + 1, -most - 1, 1 << 52, 0.5, -2.5, math.SmallestNonzeroFloat64, math.MaxFloat64, math.NaN(), math.Inf(1), math.Inf(-1)}
	for at := range 8 {
		for other := range at {
			for _, x := range parts {
				for _, y := range parts {
					looksAt(t, put(put([4]complex128{}, at, x), other, y), are)
				}
			}
		}
	}
}

func TestNamedPartsThatAreNotFit(t *testing.T) {
	for at := range 8 {
		for _, part := range []float64{1125899906842625, -1125899906842625, 1125899906842624.5, 0.5, -0.5, 4503599627370496, -4503599627370496, math.SmallestNonzeroFloat64, -math.SmallestNonzeroFloat64, math.MaxFloat64, -math.MaxFloat64, math.NaN(), math.Inf(1), math.Inf(-1)} {
			for _, ground := range grounds() {
				l := put(ground, at, part)
				hasValues(t, l, whole{})
				hasNone(t, l)
			}
		}
		for _, part := range []int{1125899906842624, -1125899906842624, 1125899906842623, -1125899906842623, 1, -1} {
			p := whole{}
			p[at] = part
			hasValues(t, p.four(), p.values())
			if wave.Four(p.four()) == none {
				t.Errorf("Four of %d at %d: four times 0", part, at)
			}
		}
	}
}

// Values at 1 and at i, -1, -i tell the sums of any numbers, also where all eight parts are great.
func TestFourOfAny(t *testing.T) {
	rnd := rand.New(rand.NewSource(81))
	are := fours()
	for range 50000 {
		p := drawnWhole(rnd)
		looksAt(t, p.four(), are)
		l := put(p.four(), rnd.Intn(8), math.Float64frombits(rnd.Uint64()))
		looksAt(t, l, are)
	}
}

// P8.1: Back

func TestBackOfFew(t *testing.T) {
	for _, c := range []struct {
		l    [4]complex128
		want whole
	}{
		{[4]complex128{1, 1, 1, 1}, whole{1}}, {[4]complex128{1, 1i, -1, -1i}, whole{0, 0, 1}}, {[4]complex128{1, -1, 1, -1}, whole{0, 0, 0, 0, 1}}, {[4]complex128{1, -1i, -1, 1i}, whole{0, 0, 0, 0, 0, 0, 1}}, {[4]complex128{1i, 1i, 1i, 1i}, whole{0, 1}}, {[4]complex128{-1, -1, -1, -1}, whole{-1}}, {[4]complex128{10, -2 - 2i, -2, -2 + 2i}, whole{1, 0, 2, 0, 3, 0, 4, 0}},
		{[4]complex128{4, 0, 0, 0}, whole{1, 0, 1, 0, 1, 0, 1, 0}}, {[4]complex128{0, 4, 0, 0}, whole{1, 0, 0, -1, -1, 0, 0, 1}}, {[4]complex128{0, 0, 4, 0}, whole{1, 0, -1, 0, 1, 0, -1, 0}}, {[4]complex128{0, 0, 0, 4}, whole{1, 0, 0, 1, -1, 0, 0, -1}}, {[4]complex128{0, 0, 0, -4i}, whole{0, -1, 1, 0, 0, 1, -1, 0}},
		{[4]complex128{}, whole{}}, {[4]complex128{complex(nought, nought), complex(0, nought), complex(nought, 0), complex(nought, nought)}, whole{}}, {[4]complex128{complex(1, nought), 1, complex(1, nought), 1}, whole{1}},
		{[4]complex128{most, most, most, most}, whole{most}}, {[4]complex128{-most, -most, -most, -most}, whole{-most}}, {[4]complex128{complex(most, -most), complex(most, -most), complex(most, -most), complex(most, -most)}, whole{most, -most}}, {[4]complex128{most, -most, most, -most}, whole{0, 0, 0, 0, most}}, {[4]complex128{most, complex(0, most), -most, complex(0, -most)}, whole{0, 0, most}},
		{[4]complex128{most, 0, 0, 0}, whole{most / 4, 0, most / 4, 0, most / 4, 0, most / 4, 0}}, {[4]complex128{most - 1, most - 1, most - 1, most - 1}, whole{most - 1}}, {[4]complex128{most, most - 2, most - 4, most - 2}, whole{most - 2, 0, 1, 0, 0, 0, 1, 0}},
	} {
		comesBack(t, c.l, c.want)
	}
}

func TestBackOfWhatIsNone(t *testing.T) {
	for _, l := range [][4]complex128{
		{1, 0, 0, 0}, {0, 1, 0, 0}, {0, 0, 1, 0}, {0, 0, 0, 1}, {2, 0, 0, 0}, {3, 0, 0, 0}, {-1, 0, 0, 0}, {-2, 0, 0, 0}, {5, 0, 0, 0}, {1i, 0, 0, 0}, {0, 2i, 0, 0}, {0, 0, -1i, 0}, {0, 0, 0, 3i}, {1, 1, 1, 2}, {1, 1, 1, 0}, {2, 1, 1, 1}, {1, 1, 1, 1 + 1i}, {4, 0, 0, 1i}, {2, 2, 0, 0},
		{most, most, most, most - 1}, {most, most, most, complex(most, 1)}, {most, most - 1, most, most - 1}, {most - 1, 0, 0, 0}, {1 - most, 0, 0, 0}, {complex(0, most-2), 0, 0, 0},
		{1, 0, 1, 0}, {0, 1, 0, 1}, {1i, 0, 1i, 0}, {0, 1i, 0, 1i}, {1, 0, -1, 0}, {0, 1, 0, -1}, {1i, 0, -1i, 0}, {0, 1i, 0, -1i}, // two parts alone are not whole: such as 1/2 0 1/2 0
		{1, -1, 0, 0}, {1, 1, 0, 0}, {1, 0, 0, -1}, {1, 0, 0, 1}, {1, 1i, 0, 0}, {1, -1i, 0, 0}, // one of the four is whole
		{0.5, 0.5, 0.5, 0.5}, {0.25, 0.25i, -0.25, -0.25i}, {0.5i, -0.5i, 0.5i, -0.5i}, {0.5, -0.5i, -0.5, 0.5i}, // one part of one alone is not whole: such values are not whole themselves
		{1 << 52, 0, 0, 0}, {most + 4, 0, 0, 0}, {most + 1, most + 1, most + 1, most + 1}, {0, 0, 0, complex(0, -most-4)}, // they would be whole
	} {
		hasNone(t, l)
	}
}

// Which values have whole numbers behind them is told by the values of all rests modulo 4, not by the way back.
func TestBackOfAllRests(t *testing.T) {
	are := fours()
	for n := range are {
		p := ofModulo4(n)
		looksAt(t, p.four(), are)
		for i := range p {
			p[i] -= 4 * (n >> i & 1)
		}
		looksAt(t, p.four(), are)
	}
}

// fitWhole has drawn parts that are fit, and whose values are fit too.
func fitWhole(rnd *rand.Rand) whole {
	for {
		p := drawnWhole(rnd)
		if _, ok := partsOf(p.values().four()); ok {
			return p
		}
	}
}

func TestBackOfFour(t *testing.T) {
	rnd := rand.New(rand.NewSource(82))
	for range 50000 {
		p := fitWhole(rnd)
		comesBack(t, wave.Four(p.four()), p)
	}
}

func TestFourOfBack(t *testing.T) {
	rnd := rand.New(rand.NewSource(83))
	for range 50000 {
		p := fitWhole(rnd).values()
		back, ok := wave.Back(p.four())
		if again := wave.Four(back); again != p.four() || !ok {
			t.Errorf("Four of Back of %v: %v, %v", p.four(), again, ok)
		}
		p[rnd.Intn(8)] += 1 + rnd.Intn(3)
		if _, fit := partsOf(p.four()); fit {
			hasNone(t, p.four())
		}
	}
}

// P8.2

// plain is the sum that the chapter names, number by number.
func plain(a, b []int) []int {
	if len(a) == 0 || len(b) == 0 {
		return nil
	}
	c := make([]int, len(a)+len(b)-1)
	for k := range c {
		for i := range a {
			if j := k - i; j >= 0 && j < len(b) {
				c[k] += a[i] * b[j]
			}
		}
	}
	return c
}

// all has one number n times.
func all(number, n int) []int {
	return slices.Repeat([]int{number}, n)
}

// drawnList has n numbers up to a greatest one, many of them 0 or that one.
func drawnList(rnd *rand.Rand, n, greatest int) []int {
	l := make([]int, n)
	for i := range l {
		switch rnd.Intn(4) {
		case 0:
			l[i] = greatest
		case 1:
			l[i] = greatest >> rnd.Intn(17)
		case 2:
			l[i] = rnd.Intn(greatest + 1)
		}
	}
	return l
}

func folds(t *testing.T, a, b, want []int) {
	t.Helper()
	if got, ok := wave.Fold(a, b); !slices.Equal(got, want) || !ok {
		t.Errorf("Fold(%v, %v): %v, %v, not %v, true", a, b, got, ok, want)
	}
}

// isRefused also holds R2: with false there are no numbers.
func isRefused(t *testing.T, a, b []int) {
	t.Helper()
	if got, ok := wave.Fold(a, b); len(got) != 0 || ok {
		t.Errorf("Fold of %d numbers %v.. and %d numbers %v..: %v, %v, not none, false", len(a), a[:min(len(a), 9)], len(b), b[:min(len(b), 9)], got, ok)
	}
}

func TestFoldOfFew(t *testing.T) {
	for _, c := range [][3][]int{
		{{1, 2}, {3, 4}, {3, 10, 8}}, {{0}, {0}, {0}}, {{1}, {1}, {1}}, {{2}, {3}, {6}}, {{0}, {5, 6, 7}, {0, 0, 0}}, {{1}, {5, 6, 7}, {5, 6, 7}}, {{0, 1}, {5, 6, 7}, {0, 5, 6, 7}}, {{1, 0}, {5, 6, 7}, {5, 6, 7, 0}}, {{0, 0, 1}, {0, 1}, {0, 0, 0, 1}}, {{0, 0, 0}, {0, 0}, {0, 0, 0, 0}},
		{{1, 1}, {1, 1}, {1, 2, 1}}, {{1, 1, 1}, {1, 1, 1}, {1, 2, 3, 2, 1}}, {{1, 1, 1, 1}, {1, 1, 1, 1}, {1, 2, 3, 4, 3, 2, 1}}, {{1, 2, 3}, {4, 5, 6}, {4, 13, 28, 27, 18}}, {{1, 2, 3}, {10, 20}, {10, 40, 70, 60}}, {{9}, {1, 2, 3, 4, 5}, {9, 18, 27, 36, 45}}, {{1, 10, 100, 1000, 10000}, {1, 2}, {1, 12, 120, 1200, 12000, 20000}},
		{{65535}, {65535}, {4294836225}}, {{65535}, {1}, {65535}}, {{65535}, {0}, {0}}, {{65535, 65535}, {65535, 65535}, {4294836225, 8589672450, 4294836225}}, {{65535, 1}, {1, 65535}, {65535, 4294836226, 65535}}, {{65534}, {65535, 65533}, {4294770690, 4294639622}},
	} {
		folds(t, c[0], c[1], c[2])
		folds(t, c[1], c[0], c[2])
	}
}

func TestFoldOfNone(t *testing.T) {
	for _, l := range [][]int{nil, {}, {0}, {1}, {65535}, {0, 0}, {1, 2, 3}, make([]int, api.MaxNat-1), all(digit, api.MaxNat), make([]int, 0, 9), make([]int, 3, 9)} {
		for _, empty := range [][]int{nil, {}, make([]int, 0, 5)} {
			folds(t, l, empty, nil)
			folds(t, empty, l, nil)
		}
	}
}

// sides are lists beside which another one is refused, and which are taken themselves.
func sides() [][]int {
	return [][]int{nil, {}, {0}, {1}, {65535}, {1, 2, 3}, all(digit, api.MaxNat)}
}

func TestFoldRefusesNumbers(t *testing.T) {
	for _, bad := range []int{65536, 65537, -1, -2, -65535, -65536, 1 << 17, 1 << 25, 1<<32 - 1, 1 << 32, 1<<32 + 7, -1<<32 + 7, 1 << 53, math.MaxInt, math.MaxInt - 1, math.MinInt, math.MinInt + 1} {
		for _, n := range []int{1, 2, 3, 4, 5, 17, api.MaxNat - 1, api.MaxNat} {
			for at := range n {
				l := all(at%7, n)
				l[at] = bad
				isRefused(t, l, l)
				if n > 17 && at > 1 && at < n-2 {
					isRefused(t, l, nil)
					isRefused(t, []int{1}, l)
					continue
				}
				for _, side := range sides() {
					isRefused(t, l, side)
					isRefused(t, side, l)
				}
			}
		}
	}
}

func TestFoldRefusesLengths(t *testing.T) {
	for _, n := range []int{api.MaxNat + 1, api.MaxNat + 2, 2 * api.MaxNat, 2*api.MaxNat + 1, 65536, 65536 + 3, 1 << 20} {
		for _, number := range []int{0, 1, digit, -1, 65536} {
			l := all(number, n)
			isRefused(t, l, l)
			for _, side := range sides() {
				isRefused(t, l, side)
				isRefused(t, side, l)
			}
		}
	}
}

// Spare room is not looked at: a list's length counts, not what lies behind it.
func TestFoldWithSpareRoom(t *testing.T) {
	room := all(-1, 2*api.MaxNat)
	copy(room, []int{3, 4})
	folds(t, room[:2], []int{1, 2}, []int{3, 10, 8})
	folds(t, []int{1, 2}, room[:2], []int{3, 10, 8})
	folds(t, room[:0], room[:2], nil)
	folds(t, room[:2], room[:2], []int{9, 24, 16})
}

func TestFoldOfTheGreatest(t *testing.T) {
	const square = digit * digit
	full := all(digit, api.MaxNat)
	want := make([]int, 2*api.MaxNat-1)
	for k := range want {
		want[k] = square * min(k+1, 2*api.MaxNat-1-k)
	}
	folds(t, full, full, want)
	if want[api.MaxNat-1] != 1099478073600 {
		t.Errorf("the greatest sum: %d", want[api.MaxNat-1])
	}
	folds(t, full, []int{digit}, all(square, api.MaxNat))
	folds(t, []int{1}, full, full)
	folds(t, full, []int{0}, make([]int, api.MaxNat))
}

func TestFoldOfAllLengths(t *testing.T) {
	rnd := rand.New(rand.NewSource(84))
	lengths := []int{31, 32, 33, 61, 64, 97, 127, 128, 129, 200, api.MaxNat - 3, api.MaxNat - 2, api.MaxNat - 1, api.MaxNat}
	for n := range 20 {
		lengths = append(lengths, n)
	}
	for _, n := range lengths {
		for _, m := range lengths {
			a, b := drawnList(rnd, n, digit), drawnList(rnd, m, digit)
			folds(t, a, b, plain(a, b))
			a, b = all(digit, n), all(digit, m)
			folds(t, a, b, plain(a, b))
		}
	}
}

// One number alone moves and multiplies the other list: so each place of each list is told from all others.
func TestFoldOfOneNumberAtEachPlace(t *testing.T) {
	rnd := rand.New(rand.NewSource(85))
	for _, n := range []int{1, 2, 3, 4, 5, 8, 13, api.MaxNat - 1, api.MaxNat} {
		for at := range n {
			b := drawnList(rnd, 1+rnd.Intn(30), digit)
			a, want := make([]int, n), make([]int, n+len(b)-1)
			a[at] = 1 + rnd.Intn(digit)
			for j := range b {
				want[at+j] = a[at] * b[j]
			}
			folds(t, a, b, want)
			folds(t, b, a, want)
		}
	}
}

// P8.3

// folded is Fold of lists that are taken.
func folded(t *testing.T, a, b []int) []int {
	t.Helper()
	c, ok := wave.Fold(a, b)
	if !ok {
		t.Fatalf("Fold(%v, %v): false", a, b)
	}
	return c
}

// sum adds the second list, moved by some places, to the first one.
func sum(a, b []int, moved int) []int {
	c := make([]int, max(len(a), len(b)+moved))
	copy(c, a)
	for i, n := range b {
		c[i+moved] += n
	}
	return c
}

// length is often few, and any at times.
func length(rnd *rand.Rand) int {
	if rnd.Intn(8) == 0 {
		return 1 + rnd.Intn(api.MaxNat)
	}
	return 1 + rnd.Intn(12)
}

func TestFoldInEitherOrder(t *testing.T) {
	rnd := rand.New(rand.NewSource(86))
	for range 3000 {
		a, b := drawnList(rnd, length(rnd), digit), drawnList(rnd, length(rnd), digit)
		folds(t, b, a, folded(t, a, b))
	}
}

// Three lists whose numbers are few, so that their products may be folded again.
func TestFoldOfThree(t *testing.T) {
	rnd := rand.New(rand.NewSource(87))
	for range 2000 {
		a, b, c := drawnList(rnd, 1+rnd.Intn(60), 30), drawnList(rnd, 1+rnd.Intn(60), 30), drawnList(rnd, 1+rnd.Intn(60), 30)
		folds(t, folded(t, a, b), c, folded(t, a, folded(t, b, c)))
	}
}

func TestFoldOfSums(t *testing.T) {
	rnd := rand.New(rand.NewSource(88))
	for range 3000 {
		a, b, c := drawnList(rnd, length(rnd), digit/2), drawnList(rnd, length(rnd), digit-digit/2), drawnList(rnd, length(rnd), digit)
		both := sum(folded(t, a, c), folded(t, b, c), 0)
		folds(t, sum(a, b, 0), c, both)
		folds(t, c, sum(a, b, 0), both)
	}
}

// A list that is cut anywhere: the product of what is behind the cut is moved by what is ahead of it.
func TestFoldOfPieces(t *testing.T) {
	rnd := rand.New(rand.NewSource(89))
	for range 1000 {
		a, b := drawnList(rnd, 1+length(rnd)%api.MaxNat, digit), drawnList(rnd, length(rnd), digit)
		cut := rnd.Intn(len(a) + 1)
		both := sum(folded(t, a[:cut], b), folded(t, a[cut:], b), cut)
		folds(t, a, b, both[:len(a)+len(b)-1])
		folds(t, b, a, both[:len(a)+len(b)-1])
	}
}

// valueAt is the polynomial's value at a place, without a bound.
func valueAt(l []int, place int64) *big.Int {
	v := new(big.Int)
	for _, n := range slices.Backward(l) {
		v.Mul(v, big.NewInt(place)).Add(v, big.NewInt(int64(n)))
	}
	return v
}

func TestFoldAtPlaces(t *testing.T) {
	rnd := rand.New(rand.NewSource(90))
	for range 400 {
		a, b := drawnList(rnd, length(rnd), digit), drawnList(rnd, length(rnd), digit)
		c := folded(t, a, b)
		for _, place := range []int64{0, 1, -1, 2, -3, 10, 65536, -65536, 1<<40 + 1} {
			if want := new(big.Int).Mul(valueAt(a, place), valueAt(b, place)); valueAt(c, place).Cmp(want) != 0 {
				t.Errorf("Fold(%v, %v) at %d: another value than both values' product", a, b, place)
			}
		}
	}
}

// valuesAtFour adds the numbers that stand four places from one another: i to the 4 is 1.
func valuesAtFour(l []int) [4]complex128 {
	var four [4]complex128
	for i, n := range l {
		four[i%4] += complex(float64(n), 0)
	}
	return wave.Four(four)
}

func TestFoldAtFourPoints(t *testing.T) {
	rnd := rand.New(rand.NewSource(91))
	for range 2000 {
		a, b := drawnList(rnd, length(rnd), digit), drawnList(rnd, length(rnd), digit)
		x, y, z := valuesAtFour(a), valuesAtFour(b), valuesAtFour(folded(t, a, b))
		for k := range z {
			if z[k] != x[k]*y[k] {
				t.Errorf("Fold(%v, %v) at point %d: %v, not %v times %v", a, b, k, z[k], x[k], y[k])
			}
		}
	}
}

// R4 and R5

// leaves folds the first n and m numbers of lists that go on behind them, and writes over all that is answered.
func leaves(t *testing.T, a, b []int, n, m int) {
	t.Helper()
	keptA, keptB := slices.Clone(a), slices.Clone(b)
	c, _ := wave.Fold(a[:n], b[:m])
	c = c[:cap(c)]
	for i := range c {
		c[i] = -7
	}
	if !slices.Equal(a, keptA) || !slices.Equal(b, keptB) {
		t.Errorf("Fold of %d and %d numbers: a list is changed, or shared", n, m)
	}
}

func TestFoldLeavesItsLists(t *testing.T) {
	rnd := rand.New(rand.NewSource(92))
	lengths := []int{0, 1, 2, 3, 9, api.MaxNat, api.MaxNat + 1}
	for _, n := range lengths {
		for _, m := range lengths {
			a, b := drawnList(rnd, 2*n+5, digit), drawnList(rnd, 2*m+5, digit)
			leaves(t, a, b, n, m)
			leaves(t, a, a, n, n)
		}
		// 1 and 0 fold to what is a list already.
		one, zero, b := []int{1, 0, 0}, []int{0, 0, 0}, drawnList(rnd, 2*n+5, digit)
		for k := range 4 {
			leaves(t, one, b, k, n)
			leaves(t, b, one, n, k)
			leaves(t, zero, b, k, n)
			leaves(t, b, zero, n, k)
			leaves(t, zero, make([]int, 2*n+5), k, n)
		}
	}
}

func TestFoldAnswersNewLists(t *testing.T) {
	rnd := rand.New(rand.NewSource(93))
	for range 200 {
		a, b := drawnList(rnd, length(rnd), digit), drawnList(rnd, length(rnd), digit)
		want := plain(a, b)
		first, second := folded(t, a, b), folded(t, a, b)
		for i := range first[:cap(first)] {
			first[:cap(first)][i] = -7
		}
		clear(a)
		if !slices.Equal(second, want) {
			t.Errorf("Fold: what was answered changes with another answer, or with a list")
		}
		folds(t, a, b, make([]int, len(want)))
	}
}

// Arrays are handed in as values; what was answered before does not hang on.
func TestFourAndBackTellTheSameAgain(t *testing.T) {
	rnd := rand.New(rand.NewSource(94))
	for range 500 {
		p := fitWhole(rnd)
		l := p.four()
		values := wave.Four(l)
		back, ok := wave.Back(values)
		wave.Four([4]complex128{1, 2, 3, 4})
		wave.Back([4]complex128{1, 2, 3, complex(math.NaN(), 4)})
		again, okAgain := wave.Back(wave.Four(l))
		if l != p.four() || back != l || again != l || !ok || !okAgain || wave.Four(l) != values {
			t.Errorf("Four and Back of %v: another answer than before", l)
		}
	}
}
