package big_test

import (
	"math"
	unbound "math/big"
	"math/rand"
	"regexp"
	"slices"
	"strings"
	"testing"

	"propylon/api"
	"propylon/big"
)

// top is the greatest digit.
const top = 65535

// bound is the first number that has more than MaxNat digits.
var bound = new(unbound.Int).Lsh(unbound.NewInt(1), 16*api.MaxNat)

// decimal says by an expression which texts look like a Text; their numbers may be too great.
var decimal = regexp.MustCompile(`\A(0|[1-9][0-9]*)\z`)

// all has one digit n times.
func all(digit uint16, n int) api.Nat {
	return slices.Repeat(api.Nat{digit}, n)
}

// power is 2 to the 16 times n: n noughts, and a 1.
func power(n int) api.Nat {
	return append(make(api.Nat, n), 1)
}

// number is a row of digits as a number without a bound.
func number(a api.Nat) *unbound.Int {
	n := new(unbound.Int)
	for _, d := range slices.Backward(a) {
		n.Lsh(n, 16).Add(n, unbound.NewInt(int64(d)))
	}
	return n
}

// digits are those of a number without a bound, as many as it needs.
func digits(n *unbound.Int) api.Nat {
	var a api.Nat
	for n = new(unbound.Int).Set(n); n.Sign() != 0; n.Rsh(n, 16) {
		a = append(a, uint16(new(unbound.Int).And(n, unbound.NewInt(top)).Int64()))
	}
	return a
}

func plus(n *unbound.Int, k int64) *unbound.Int {
	return new(unbound.Int).Add(n, unbound.NewInt(k))
}

func two(n int) *unbound.Int {
	return new(unbound.Int).Lsh(unbound.NewInt(1), uint(n))
}

func ten(n int) *unbound.Int {
	return new(unbound.Int).Exp(unbound.NewInt(10), unbound.NewInt(int64(n)), nil)
}

// nats are those that the chapter's bounds, carries and guesses hang on.
func nats() []api.Nat {
	return []api.Nat{
		nil, {}, {1}, {2}, {9}, {10}, {32767}, {32768}, {65534}, {65535}, {0, 1}, {1, 1}, {65535, 1}, {65535, 65535}, {0, 65535}, {0, 32768}, {65535, 32767}, {0, 0, 1}, {1, 0, 1}, {65535, 65535, 65535}, {0, 0, 32768}, {65535, 0, 65535},
		power(3), all(top, 4), {0, 0, 0, 32768}, power(4), {1, 0, 0, 0, 1}, all(top, 5), {65535, 0, 0, 1}, {65535, 65535, 0, 0, 1}, {65535, 65535, 65535, 0, 0, 32768}, all(1, 7), power(31), all(top, 32),
		power(api.MaxNat/2 - 1), all(top, api.MaxNat/2), power(api.MaxNat / 2), append(all(top, api.MaxNat-2), 0, 1), power(api.MaxNat - 2), all(top, api.MaxNat-1), power(api.MaxNat - 1), append(power(api.MaxNat - 1)[:api.MaxNat-1], 32768), append(power(api.MaxNat - 1)[:api.MaxNat-1], top), append(api.Nat{1}, power(api.MaxNat-2)...), append(all(top, api.MaxNat-1), 1), append(api.Nat{65534}, all(top, api.MaxNat-1)...), all(top, api.MaxNat),
	}
}

// noNats are rows that are none, or have too many digits.
func noNats() []api.Nat {
	return []api.Nat{
		{0}, {0, 0}, {1, 0}, {65535, 0}, {0, 1, 0}, {1, 2, 3, 0}, {1, 2, 3, 4, 0}, {0, 0, 0, 0, 0}, make(api.Nat, api.MaxNat-1), make(api.Nat, api.MaxNat), make(api.Nat, api.MaxNat+1), append(all(top, api.MaxNat-1), 0), append(all(top, api.MaxNat), 0), append(all(top, api.MaxNat-2), 0),
		power(api.MaxNat), all(top, api.MaxNat+1), all(1, api.MaxNat+1), power(api.MaxNat + 1), all(top, 2*api.MaxNat), power(2 * api.MaxNat), make(api.Nat, 1<<16), power(1 << 16), all(top, 1<<16+3), all(7, 1<<20),
	}
}

// drawn is a Nat of at most so many digits, many of them 0 or the greatest one.
func drawn(rnd *rand.Rand, most int) api.Nat {
	a := make(api.Nat, rnd.Intn(most+1))
	for i := range a {
		switch rnd.Intn(4) {
		case 0:
			a[i] = top
		case 1:
			a[i] = top >> rnd.Intn(17)
		case 2:
			a[i] = uint16(rnd.Intn(top + 1))
		}
	}
	if len(a) > 0 && a[len(a)-1] == 0 {
		a[len(a)-1] = 1 << rnd.Intn(16)
	}
	return a
}

// length is often few digits, and any number at times.
func length(rnd *rand.Rand) int {
	if rnd.Intn(20) == 0 {
		return api.MaxNat
	}
	return 12
}

// short keeps what a test tells short.
func short(a api.Nat) api.Nat {
	return a[:min(len(a), 12)]
}

// is holds a Nat that was answered against a number, and asks that it has no more digits than it needs.
func is(t *testing.T, what string, got api.Nat, want *unbound.Int) {
	t.Helper()
	if !slices.Equal(got, digits(want)) {
		t.Errorf("%s: %d digits %v.., not %d digits %v..", what, len(got), short(got), len(digits(want)), short(digits(want)))
	}
}

// looksAtOne holds all calls of one Nat against numbers without a bound.
func looksAtOne(t *testing.T, a api.Nat) {
	t.Helper()
	n := number(a)
	if !big.Is(a) {
		t.Errorf("Is of %d digits %v..: false", len(a), short(a))
	}
	if v, ok := big.Small(a); ok != n.IsUint64() || ok && v != n.Uint64() || !ok && v != 0 {
		t.Errorf("Small of %d digits %v..: %d, %v", len(a), short(a), v, ok)
	}
	if got := big.Bits(a); got != n.BitLen() {
		t.Errorf("Bits of %d digits %v..: %d, not %d", len(a), short(a), got, n.BitLen())
	}
	if got := big.Text(a); got != n.String() {
		t.Errorf("Text of %d digits %v..: %s, not %s", len(a), short(a), got, n)
	}
	if got, ok := big.Parse(n.String()); !slices.Equal(got, a) || !ok {
		t.Errorf("Parse(%s): %v, %v, not %v, true", n, got, ok, a)
	}
}

// looksAtTwo holds all calls of two Nats against numbers without a bound.
func looksAtTwo(t *testing.T, a, b api.Nat) {
	t.Helper()
	n, m := number(a), number(b)
	if got := big.Cmp(a, b); got != n.Cmp(m) {
		t.Errorf("Cmp of %d digits %v.. and %d digits %v..: %d, not %d", len(a), short(a), len(b), short(b), got, n.Cmp(m))
	}
	is(t, "Add", big.Add(a, b), new(unbound.Int).Add(n, m))
	is(t, "Mul", big.Mul(a, b), new(unbound.Int).Mul(n, m))
	subtracts(t, a, b)
	divides(t, a, b)
}

// subtracts also holds R2: with false there is no difference.
func subtracts(t *testing.T, a, b api.Nat) {
	t.Helper()
	n, m := number(a), number(b)
	got, ok := big.Sub(a, b)
	if ok != (n.Cmp(m) >= 0) || !ok && len(got) != 0 {
		t.Errorf("Sub of %d digits %v.. and %d digits %v..: %v, %v", len(a), short(a), len(b), short(b), short(got), ok)
	}
	if ok && n.Cmp(m) >= 0 {
		is(t, "Sub", got, n.Sub(n, m))
	}
}

// divides also holds R2: with false there is neither a quotient nor anything left.
func divides(t *testing.T, a, b api.Nat) {
	t.Helper()
	n, m := number(a), number(b)
	q, r, ok := big.Div(a, b)
	if ok != (m.Sign() != 0) || !ok && len(q)+len(r) != 0 {
		t.Errorf("Div of %d digits %v.. by %d digits %v..: %v, %v, %v", len(a), short(a), len(b), short(b), q, r, ok)
	}
	if ok && m.Sign() != 0 {
		n, m = n.QuoRem(n, m, m)
		is(t, "Div: quotient", q, n)
		is(t, "Div: left", r, m)
	}
}

// P9.1: Is

func TestIs(t *testing.T) {
	for _, a := range nats() {
		if !big.Is(a) {
			t.Errorf("Is of %d digits %v..: false", len(a), short(a))
		}
	}
	for _, a := range noNats() {
		if big.Is(a) {
			t.Errorf("Is of %d digits %v..: true", len(a), short(a))
		}
	}
}

func TestIsOfAllLengths(t *testing.T) {
	for n := range 2*api.MaxNat + 9 {
		if got := big.Is(all(top, n)); got != (n <= 256) {
			t.Errorf("Is of %d digits 65535: %v", n, got)
		}
		if got := big.Is(power(n)); got != (n < 256) {
			t.Errorf("Is of %d digits 0 and a 1: %v", n, got)
		}
		if got := big.Is(make(api.Nat, n)); got != (n == 0) {
			t.Errorf("Is of %d digits 0: %v", n, got)
		}
	}
}

// A row's length counts, not what lies behind it.
func TestIsWithSpareRoom(t *testing.T) {
	room := append(api.Nat{5, 0}, make(api.Nat, 2*api.MaxNat)...)
	if !big.Is(room[:0]) || !big.Is(room[:1]) || big.Is(room[:2]) || big.Is(room[:3]) || big.Is(room) {
		t.Errorf("Is of the first digits of a longer row: wrong")
	}
	looksAtTwo(t, room[:1], room[:0])
	looksAtTwo(t, room[:1], room[:1])
	looksAtOne(t, room[:1])
}

// Whatever is asked of a row that is no Nat, the answer is zero (R2); and nothing panics (R1).
func TestOneThatIsNone(t *testing.T) {
	for _, a := range noNats() {
		if v, ok := big.Small(a); v != 0 || ok {
			t.Errorf("Small of %d digits %v..: %d, %v, not 0, false", len(a), short(a), v, ok)
		}
		if got := big.Bits(a); got != 0 {
			t.Errorf("Bits of %d digits %v..: %d, not 0", len(a), short(a), got)
		}
		if got := big.Text(a); got != "" {
			t.Errorf("Text of %d digits %v..: %s, not empty", len(a), short(a), got)
		}
		for _, n := range []int{0, 1, 16, 4096, 4097, -1, math.MaxInt, math.MinInt} {
			if got := big.Up(a, n); len(got) != 0 {
				t.Errorf("Up of %d digits %v.. by %d: %v, not none", len(a), short(a), n, got)
			}
		}
	}
}

// hasNothing asks all calls of two rows, at least one of which is no Nat.
func hasNothing(t *testing.T, a, b api.Nat) {
	t.Helper()
	c, sum, product := big.Cmp(a, b), big.Add(a, b), big.Mul(a, b)
	difference, less := big.Sub(a, b)
	q, r, ok := big.Div(a, b)
	if c != 0 || len(sum) != 0 || len(product) != 0 || len(difference) != 0 || less || len(q) != 0 || len(r) != 0 || ok {
		t.Errorf("of %d digits %v.. and %d digits %v..: Cmp %d, Add %v, Mul %v, Sub %v, %v, Div %v, %v, %v", len(a), short(a), len(b), short(b), c, short(sum), short(product), short(difference), less, short(q), short(r), ok)
	}
}

func TestTwoOneOfWhichIsNone(t *testing.T) {
	for _, none := range noNats() {
		for _, a := range nats() {
			hasNothing(t, none, a)
			hasNothing(t, a, none)
		}
		for _, other := range noNats() {
			hasNothing(t, none, other)
		}
	}
}

// P9.1: all calls of each edge, and of each two

func TestEachEdge(t *testing.T) {
	for _, a := range nats() {
		looksAtOne(t, a)
	}
}

func TestEachTwoEdges(t *testing.T) {
	for _, a := range nats() {
		for _, b := range nats() {
			looksAtTwo(t, a, b)
		}
	}
}

func TestAny(t *testing.T) {
	rnd := rand.New(rand.NewSource(91))
	for range 5000 {
		a, b := drawn(rnd, length(rnd)), drawn(rnd, length(rnd))
		looksAtOne(t, a)
		looksAtTwo(t, a, b)
	}
}

func TestEachTwoShortRows(t *testing.T) {
	var rows []api.Nat
	few := []uint16{0, 1, 2, 32767, 32768, 65534, 65535}
	for _, x := range few {
		for _, y := range few {
			for _, z := range few {
				rows = append(rows, api.Nat{x, y, z})
			}
			rows = append(rows, api.Nat{x, y})
		}
		rows = append(rows, api.Nat{x})
	}
	rows = slices.DeleteFunc(rows, func(a api.Nat) bool { return a[len(a)-1] == 0 })
	for _, a := range rows {
		for _, b := range rows {
			looksAtTwo(t, a, b)
		}
	}
}

// P9.1: Of, Small, Bits

func TestOfAndSmall(t *testing.T) {
	for _, c := range []struct {
		v uint64
		a api.Nat
	}{
		{0, nil}, {1, api.Nat{1}}, {258, api.Nat{258}}, {65535, api.Nat{65535}}, {65536, api.Nat{0, 1}}, {65537, api.Nat{1, 1}}, {1<<32 - 1, api.Nat{65535, 65535}}, {1 << 32, api.Nat{0, 0, 1}}, {1<<48 - 1, api.Nat{65535, 65535, 65535}}, {1 << 48, api.Nat{0, 0, 0, 1}},
		{0x1234567890abcdef, api.Nat{0xcdef, 0x90ab, 0x5678, 0x1234}}, {1<<63 - 1, api.Nat{65535, 65535, 65535, 32767}}, {1 << 63, api.Nat{0, 0, 0, 32768}}, {math.MaxUint64 - 1, api.Nat{65534, 65535, 65535, 65535}}, {math.MaxUint64, api.Nat{65535, 65535, 65535, 65535}},
	} {
		if got := big.Of(c.v); !slices.Equal(got, c.a) {
			t.Errorf("Of(%d): %v, not %v", c.v, got, c.a)
		}
		if got, ok := big.Small(c.a); got != c.v || !ok {
			t.Errorf("Small(%v): %d, %v, not %d, true", c.a, got, ok, c.v)
		}
	}
	for _, a := range []api.Nat{{0, 0, 0, 0, 1}, {1, 0, 0, 0, 1}, all(top, 5), {5, 0, 0, 0, 65535}, power(5), power(api.MaxNat - 1), all(top, api.MaxNat)} {
		if got, ok := big.Small(a); got != 0 || ok {
			t.Errorf("Small of %d digits %v..: %d, %v, not 0, false", len(a), short(a), got, ok)
		}
	}
}

func TestSmallOfOf(t *testing.T) {
	rnd := rand.New(rand.NewSource(92))
	for range 20000 {
		v := rnd.Uint64() >> rnd.Intn(65)
		a := big.Of(v)
		if got, ok := big.Small(a); got != v || !ok || !big.Is(a) {
			t.Errorf("Small(Of(%d)): %d, %v, by %v", v, got, ok, a)
		}
	}
}

func TestBitsOfPowers(t *testing.T) {
	for n := range 16 * api.MaxNat {
		for _, c := range []struct {
			n    *unbound.Int
			want int
		}{{two(n), n + 1}, {plus(two(n), -1), n}, {plus(two(n), 1), n + 1 + (1 - min(n, 1))}} {
			if got := big.Bits(digits(c.n)); got != c.want {
				t.Errorf("Bits(%v): %d, not %d", c.n, got, c.want)
			}
		}
	}
	if got := big.Bits(all(top, api.MaxNat)); got != 4096 {
		t.Errorf("Bits of the greatest one: %d, not 4096", got)
	}
	if big.Bits(nil) != 0 || big.Bits(api.Nat{1}) != 1 || big.Bits(api.Nat{65535}) != 16 || big.Bits(api.Nat{0, 1}) != 17 {
		t.Errorf("Bits of 0, 1, 65535, 65536: wrong")
	}
}

// P9.1: Cmp

func compares(t *testing.T, a, b api.Nat, want int) {
	t.Helper()
	if got := big.Cmp(a, b); got != want {
		t.Errorf("Cmp of %d digits %v.. and %d digits %v..: %d, not %d", len(a), short(a), len(b), short(b), got, want)
	}
}

func TestCmpOfUnlikeLengths(t *testing.T) {
	for _, n := range []int{1, 2, 3, 4, 5, 17, api.MaxNat - 1, api.MaxNat} {
		compares(t, all(top, n-1), power(n-1), -1)
		compares(t, power(n-1), all(top, n-1), 1)
		compares(t, nil, power(n-1), -1)
		compares(t, power(n-1), api.Nat{}, 1)
	}
	compares(t, nil, api.Nat{}, 0)
	compares(t, api.Nat{}, nil, 0)
}

func TestCmpThatPartsInOneDigit(t *testing.T) {
	for _, n := range []int{1, 2, 3, 4, 5, 17, api.MaxNat} {
		for at := range n {
			a, b := all(32768, n), all(32768, n)
			compares(t, a, b, 0)
			compares(t, a, a, 0)
			a[at]++
			compares(t, a, b, 1)
			compares(t, b, a, -1)
			for i := range at {
				a[i], b[i] = 0, top
			}
			compares(t, a, b, 1)
			compares(t, b, a, -1)
		}
	}
}

// P9.1: Add, Sub

func TestAddCarries(t *testing.T) {
	for n := range api.MaxNat + 1 {
		is(t, "Add of 1", big.Add(all(top, n), api.Nat{1}), two(16*n))
		is(t, "Add to 1", big.Add(api.Nat{1}, all(top, n)), two(16*n))
		is(t, "Add of itself", big.Add(all(top, n), all(top, n)), plus(two(16*n+1), -2))
	}
	for _, n := range []int{2, 3, 9, api.MaxNat - 1, api.MaxNat} {
		for at := range n {
			a := all(top, n)
			a[at] = 65534
			looksAtTwo(t, power(at), a)
		}
	}
	if got := big.Add(all(top, api.MaxNat), api.Nat{1}); !slices.Equal(got, power(api.MaxNat)) || big.Is(got) {
		t.Errorf("Add of the greatest one and 1: %d digits %v..", len(got), short(got))
	}
	if got := big.Add(all(top, api.MaxNat), all(top, api.MaxNat)); !slices.Equal(got, append(append(api.Nat{65534}, all(top, api.MaxNat-1)...), 1)) {
		t.Errorf("Add of the greatest one and itself: %d digits %v..", len(got), short(got))
	}
}

func TestSubOfItself(t *testing.T) {
	for _, a := range nats() {
		if got, ok := big.Sub(a, slices.Clone(a)); len(got) != 0 || !ok {
			t.Errorf("Sub of %d digits %v.. and itself: %v, %v, not none, true", len(a), short(a), got, ok)
		}
		if got, ok := big.Sub(a, nil); !slices.Equal(got, a) || !ok {
			t.Errorf("Sub of %d digits %v.. and 0: %v, %v", len(a), short(a), got, ok)
		}
	}
}

func TestSubThroughNoughts(t *testing.T) {
	for n := range api.MaxNat {
		got, ok := big.Sub(power(n), api.Nat{1})
		if !slices.Equal(got, all(top, n)) || !ok {
			t.Errorf("Sub of %d noughts and 1, and 1: %d digits %v.., %v", n, len(got), short(got), ok)
		}
		less, ok := big.Sub(all(top, n), power(n))
		if len(less) != 0 || ok {
			t.Errorf("Sub of one less, of %d digits: %v, %v, not none, false", n, short(less), ok)
		}
		for _, at := range []int{0, 1, n / 2, n - 1, n} {
			if at >= 0 && at <= n {
				subtracts(t, power(n), power(at))
				subtracts(t, power(at), power(n))
			}
		}
	}
}

// What is left has as few digits as it needs, wherever the two part.
func TestSubLeavesNoughts(t *testing.T) {
	for _, n := range []int{1, 2, 3, 9, api.MaxNat} {
		for at := range n {
			a, b := all(7, n), all(7, n)
			a[at] = 9
			want := append(make(api.Nat, at), 2)
			if got, ok := big.Sub(a, b); !slices.Equal(got, want) || !ok {
				t.Errorf("Sub of digits 7 that part at %d of %d: %v, %v", at, n, short(got), ok)
			}
			if got, ok := big.Sub(b, a); len(got) != 0 || ok {
				t.Errorf("Sub of less, at %d of %d: %v, %v, not none, false", at, n, short(got), ok)
			}
		}
	}
	for _, a := range nats() {
		more := big.Add(a, api.Nat{1})
		if !big.Is(more) {
			continue
		}
		if got, ok := big.Sub(a, more); len(got) != 0 || ok {
			t.Errorf("Sub of %d digits %v.. and one more: %v, %v, not none, false", len(a), short(a), short(got), ok)
		}
		if got, ok := big.Sub(more, a); !slices.Equal(got, api.Nat{1}) || !ok {
			t.Errorf("Sub of one more than %d digits %v.., and it: %v, %v, not 1, true", len(a), short(a), short(got), ok)
		}
	}
}

// P9.1: Mul

func TestMulOfFew(t *testing.T) {
	for _, c := range [][3]api.Nat{
		{{0, 1}, {0, 1}, {0, 0, 1}}, {nil, {5}, nil}, {{}, {}, {}}, {{1}, {1}, {1}}, {{1}, {0, 5}, {0, 5}}, {{65535}, {65535}, {1, 65534}}, {{65535}, {2}, {65534, 1}}, {{256}, {256}, {0, 1}}, {{0, 0, 3}, {0, 7}, {0, 0, 0, 21}}, {{65535, 65535}, {65535, 65535}, {1, 0, 65534, 65535}}, {{1, 2, 3}, {4, 5}, {4, 13, 22, 15}},
		{all(top, api.MaxNat), nil, nil}, {all(top, api.MaxNat), {1}, all(top, api.MaxNat)}, {power(api.MaxNat - 1), power(api.MaxNat - 1), power(2*api.MaxNat - 2)},
		{all(top, api.MaxNat), all(top, api.MaxNat), slices.Concat(power(0), make(api.Nat, api.MaxNat-1), api.Nat{65534}, all(top, api.MaxNat-1))},
	} {
		for i := range 2 {
			if got := big.Mul(c[i], c[1-i]); !slices.Equal(got, c[2]) {
				t.Errorf("Mul(%v, %v): %d digits %v.., not %v..", short(c[i]), short(c[1-i]), len(got), short(got), short(c[2]))
			}
		}
	}
	if got := big.Mul(all(top, api.MaxNat), all(top, api.MaxNat)); len(got) != 2*api.MaxNat {
		t.Errorf("Mul of the greatest ones: %d digits", len(got))
	}
}

func TestMulOfAllLengths(t *testing.T) {
	rnd := rand.New(rand.NewSource(93))
	lengths := []int{0, 1, 2, 3, 4, 5, 6, 7, 15, 16, 17, 63, 64, 65, 127, 128, 129, api.MaxNat - 2, api.MaxNat - 1, api.MaxNat}
	for _, n := range lengths {
		for _, m := range lengths {
			looksAtTwo(t, all(top, n), all(top, m))
			looksAtTwo(t, drawn(rnd, n), drawn(rnd, m))
		}
	}
}

// P9.1 and P9.3: Div

func quotient(t *testing.T, a, b, q, r api.Nat) {
	t.Helper()
	if gotQ, gotR, ok := big.Div(a, b); !slices.Equal(gotQ, q) || !slices.Equal(gotR, r) || !ok {
		t.Errorf("Div(%v, %v): %v, %v, %v, not %v, %v, true", short(a), short(b), short(gotQ), short(gotR), ok, short(q), short(r))
	}
}

func TestDivOfFew(t *testing.T) {
	quotient(t, nil, api.Nat{1}, nil, nil)
	quotient(t, nil, all(top, api.MaxNat), nil, nil)
	quotient(t, api.Nat{1}, api.Nat{1}, api.Nat{1}, nil)
	quotient(t, api.Nat{1}, api.Nat{2}, nil, api.Nat{1})
	quotient(t, api.Nat{17}, api.Nat{5}, api.Nat{3}, api.Nat{2})
	quotient(t, api.Nat{65535}, api.Nat{256}, api.Nat{255}, api.Nat{255})
	quotient(t, api.Nat{0, 1}, api.Nat{65535}, api.Nat{1}, api.Nat{1})
	quotient(t, api.Nat{0, 1}, api.Nat{2}, api.Nat{32768}, nil)
	quotient(t, api.Nat{65535}, api.Nat{0, 1}, nil, api.Nat{65535})
	quotient(t, api.Nat{5, 7}, api.Nat{0, 1}, api.Nat{7}, api.Nat{5})
	quotient(t, api.Nat{5, 6, 7}, api.Nat{0, 1}, api.Nat{6, 7}, api.Nat{5})
	quotient(t, all(top, 4), all(top, 2), api.Nat{1, 0, 1}, nil)
	quotient(t, power(4), all(top, 2), api.Nat{1, 0, 1}, api.Nat{1})
	quotient(t, all(top, api.MaxNat), all(top, api.MaxNat/2), append(power(0), power(api.MaxNat/2-1)...), nil)
	quotient(t, all(top, api.MaxNat), power(api.MaxNat-1), api.Nat{65535}, all(top, api.MaxNat-1))
	quotient(t, all(top, api.MaxNat), power(1), all(top, api.MaxNat-1), api.Nat{65535})
	quotient(t, api.Nat{0, 0, 32768, 32767}, api.Nat{1, 0, 32768}, api.Nat{65534}, api.Nat{2, 65535, 32767})
}

func TestDivByOneAndByItself(t *testing.T) {
	for _, a := range nats() {
		quotient(t, a, api.Nat{1}, a, nil)
		if len(a) > 0 {
			quotient(t, a, slices.Clone(a), api.Nat{1}, nil)
		}
		if more := big.Add(a, api.Nat{1}); big.Is(more) {
			quotient(t, a, more, nil, a)
		}
		if less, ok := big.Sub(a, api.Nat{1}); ok && big.Cmp(less, api.Nat{1}) > 0 {
			quotient(t, a, less, api.Nat{1}, api.Nat{1})
		}
		for _, b := range nats() {
			if len(b) > len(a) {
				quotient(t, a, b, nil, a)
			}
		}
	}
}

func TestDivByNought(t *testing.T) {
	for _, a := range nats() {
		for _, b := range []api.Nat{nil, {}, make(api.Nat, 0, 9), {0}, {0, 0}, make(api.Nat, api.MaxNat)} {
			if q, r, ok := big.Div(a, b); len(q) != 0 || len(r) != 0 || ok {
				t.Errorf("Div of %d digits %v.. by 0: %v, %v, %v, not none, none, false", len(a), short(a), short(q), short(r), ok)
			}
		}
	}
}

func TestDivByOneDigit(t *testing.T) {
	rnd := rand.New(rand.NewSource(94))
	for _, d := range []uint16{1, 2, 3, 9, 10, 255, 256, 257, 10000, 32767, 32768, 32769, 65534, 65535} {
		for _, a := range nats() {
			divides(t, a, api.Nat{d})
		}
		for range 100 {
			divides(t, drawn(rnd, length(rnd)), api.Nat{d})
		}
	}
}

// Where the highest digits of both are alike, and only lower ones tell whether it goes once more.
func TestDivOfAlikeHighestDigits(t *testing.T) {
	for _, n := range []int{1, 2, 3, 4, 5, 6, 9, api.MaxNat} {
		for _, high := range []uint16{1, 2, 32767, 32768, 65534, 65535} {
			for at := range n {
				a := append(make(api.Nat, n-1), high)
				b := slices.Clone(a)
				b[at]++
				for _, moved := range []int{0, 1, 2, 7} {
					for _, less := range []*unbound.Int{number(a), plus(number(a), 1), plus(two(16*(n-1)), -1)} {
						n := digits(new(unbound.Int).Lsh(less, uint(16*moved)))
						if big.Is(n) && b[len(b)-1] != 0 {
							divides(t, n, b)
							divides(t, n, a)
						}
					}
				}
			}
		}
	}
}

// dividend is q times b and r, if it Is.
func dividend(q, b, r *unbound.Int) (api.Nat, bool) {
	n := new(unbound.Int).Mul(q, b)
	a := digits(n.Add(n, r))
	return a, big.Is(a)
}

// awkward are divisors whose highest digits say least of them: few bits in the highest one, and as much as can be behind noughts.
func awkward(rnd *rand.Rand) api.Nat {
	b := drawn(rnd, 12)
	for range rnd.Intn(4) {
		b = append(b, 0)
	}
	return append(b, uint16(1<<rnd.Intn(16)))
}

// Quotients of which nothing is left, 1, or all but 1 of b: a digit that is guessed one too great, or one too small, is told there.
func TestDivWhereLittleOrMuchIsLeft(t *testing.T) {
	rnd := rand.New(rand.NewSource(95))
	for range 20000 {
		b, q := awkward(rnd), drawn(rnd, length(rnd))
		if rnd.Intn(2) == 0 {
			b = drawn(rnd, length(rnd))
		}
		if len(b) == 0 {
			continue
		}
		for _, left := range []*unbound.Int{new(unbound.Int), plus(number(b), -1), new(unbound.Int).Rsh(number(b), 1)} {
			if a, ok := dividend(number(q), number(b), left); ok {
				quotient(t, a, b, q, digits(left))
			}
		}
	}
}

// P9.3, by the calls themselves.
func TestQuotientTimesDivisorAndLeft(t *testing.T) {
	rnd := rand.New(rand.NewSource(96))
	for range 5000 {
		a, b := drawn(rnd, length(rnd)), drawn(rnd, length(rnd))
		q, r, ok := big.Div(a, b)
		if len(b) == 0 {
			continue
		}
		if got := big.Add(big.Mul(q, b), r); !slices.Equal(got, a) || big.Cmp(r, b) >= 0 || !ok || !big.Is(q) || !big.Is(r) {
			t.Errorf("Div(%v, %v): %v, %v, %v", a, b, q, r, ok)
		}
	}
}

// P9.1: Up

func TestUpByNamedNumbers(t *testing.T) {
	for _, a := range nats() {
		for _, n := range []int{0, 1, 2, 15, 16, 17, 31, 32, 33, 100, 4079, 4080, 4081, 4095, 4096} {
			is(t, "Up", big.Up(a, n), new(unbound.Int).Lsh(number(a), uint(n)))
		}
		for _, n := range []int{-1, -2, -16, -4096, 4097, 4098, 4112, 8192, 1 << 16, 1 << 32, 1<<32 + 1, -1 << 32, math.MaxInt, math.MaxInt - 1, math.MinInt, math.MinInt + 1, math.MinInt + 16} {
			if got := big.Up(a, n); len(got) != 0 {
				t.Errorf("Up of %d digits %v.. by %d: %v, not none", len(a), short(a), n, short(got))
			}
		}
	}
	if got := big.Up(api.Nat{1}, 4096); !slices.Equal(got, power(api.MaxNat)) {
		t.Errorf("Up(1, 4096): %d digits %v..", len(got), short(got))
	}
	if got := big.Up(all(top, api.MaxNat), 4096); !slices.Equal(got, append(make(api.Nat, api.MaxNat), all(top, api.MaxNat)...)) {
		t.Errorf("Up of the greatest one by 4096: %d digits %v..", len(got), short(got))
	}
	if got := big.Up(all(top, api.MaxNat), 1); !slices.Equal(got, append(append(api.Nat{65534}, all(top, api.MaxNat-1)...), 1)) {
		t.Errorf("Up of the greatest one by 1: %d digits %v..", len(got), short(got))
	}
}

// Up is the product with that power of 2, by whichever call that power is made.
func TestUpIsTheProduct(t *testing.T) {
	rnd := rand.New(rand.NewSource(97))
	for n := range 4097 {
		a := drawn(rnd, 9)
		is(t, "Up", big.Up(a, n), new(unbound.Int).Lsh(number(a), uint(n)))
		if n%37 != 0 && n < 4090 {
			continue
		}
		if p, ok := big.Power(2, n); ok != (n < 4096) || ok && !slices.Equal(big.Up(a, n), big.Mul(a, p)) {
			t.Errorf("Up(%v, %d): another than its product with that power of 2", a, n)
		}
	}
}

// P9.1: Power

// raises also holds R2: with false there is no power.
func raises(t *testing.T, b, e int) {
	t.Helper()
	got, ok := big.Power(b, e)
	if b < 0 || b > top || e < 0 {
		if len(got) != 0 || ok {
			t.Errorf("Power(%d, %d): %v, %v, not none, false", b, e, short(got), ok)
		}
		return
	}
	if b < 2 {
		e = min(e, 2)
	}
	want := bound
	if e <= 4096 {
		want = new(unbound.Int).Exp(unbound.NewInt(int64(b)), unbound.NewInt(int64(e)), nil)
	}
	if ok != (want.Cmp(bound) < 0) || !ok && len(got) != 0 {
		t.Errorf("Power(%d, %d): %v, %v", b, e, short(got), ok)
	}
	if ok {
		is(t, "Power", got, want)
	}
}

func TestPowerOfNamedNumbers(t *testing.T) {
	for _, b := range []int{0, 1, 2, 3, 4, 7, 10, 16, 255, 256, 257, 32768, 65534, 65535, 65536, 65537, 131072, -1, -2, -65535, -65536, 1 << 32, 1<<32 + 2, math.MaxInt, math.MinInt} {
		for _, e := range []int{0, 1, 2, 3, 4, 5, 8, 16, 127, 128, 255, 256, 257, 511, 512, 1023, 1024, 1233, 1234, 2047, 2048, 4095, 4096, 4097, 8191, 8192, 1 << 16, 1<<32 - 1, 1 << 32, 1<<32 + 1, 1 << 62, math.MaxInt - 1, math.MaxInt, -1, -2, -4096, math.MinInt, math.MinInt + 1} {
			raises(t, b, e)
		}
	}
}

func TestPowerWrittenOut(t *testing.T) {
	for _, c := range []struct {
		b, e int
		want api.Nat
	}{
		{0, 0, api.Nat{1}}, {0, 1, nil}, {0, math.MaxInt, nil}, {1, 0, api.Nat{1}}, {1, math.MaxInt, api.Nat{1}}, {2, 0, api.Nat{1}}, {2, 1, api.Nat{2}}, {2, 15, api.Nat{32768}}, {2, 16, api.Nat{0, 1}}, {10, 5, api.Nat{34464, 1}}, {65535, 0, api.Nat{1}}, {65535, 1, api.Nat{65535}}, {65535, 2, api.Nat{1, 65534}}, {2, 4080, power(api.MaxNat - 1)}, {256, 510, power(api.MaxNat - 1)},
	} {
		if got, ok := big.Power(c.b, c.e); !slices.Equal(got, c.want) || !ok {
			t.Errorf("Power(%d, %d): %v, %v, not %v, true", c.b, c.e, short(got), ok, short(c.want))
		}
	}
	for _, c := range [][2]int{{2, 4095}, {4, 2047}, {10, 1233}, {16, 1023}, {256, 511}, {65535, 256}} {
		if got, ok := big.Power(c[0], c[1]); len(got) != api.MaxNat || !ok {
			t.Errorf("Power(%d, %d): %d digits, %v, not 256, true", c[0], c[1], len(got), ok)
		}
		if got, ok := big.Power(c[0], c[1]+1); len(got) != 0 || ok {
			t.Errorf("Power(%d, %d): %d digits, %v, not none, false", c[0], c[1]+1, len(got), ok)
		}
	}
}

// The greatest exponent whose power has MaxNat digits, and the next one, of many numbers.
func TestPowerAtItsBound(t *testing.T) {
	rnd := rand.New(rand.NewSource(98))
	for round := range 200 {
		b := 2 + round
		if round >= 60 {
			b = 2 + rnd.Intn(top-1)
		}
		e := int(4096 / math.Log2(float64(b)))
		for _, near := range []int{e - 1, e, e + 1, e + 2} {
			raises(t, b, near)
		}
	}
}

// Power is the product so many times.
func TestPowerIsTheProduct(t *testing.T) {
	for _, b := range []int{0, 1, 2, 3, 10, 255, 256, 257, 65535} {
		product := big.Of(1)
		for e := range 300 {
			got, ok := big.Power(b, e)
			if ok != big.Is(product) || ok && !slices.Equal(got, product) || !ok && len(got) != 0 {
				t.Errorf("Power(%d, %d): %v, %v, not %v", b, e, short(got), ok, short(product))
			}
			if !ok {
				break
			}
			product = big.Mul(product, big.Of(uint64(b)))
		}
	}
}

// P9.2

func TestTextWrittenOut(t *testing.T) {
	for _, c := range []struct {
		a api.Nat
		s string
	}{
		{nil, "0"}, {api.Nat{}, "0"}, {api.Nat{1}, "1"}, {api.Nat{9}, "9"}, {api.Nat{10}, "10"}, {api.Nat{11}, "11"}, {api.Nat{99}, "99"}, {api.Nat{100}, "100"}, {api.Nat{101}, "101"}, {api.Nat{9999}, "9999"}, {api.Nat{10000}, "10000"}, {api.Nat{10001}, "10001"}, {api.Nat{65535}, "65535"}, {api.Nat{0, 1}, "65536"}, {api.Nat{34464, 1}, "100000"}, {api.Nat{34463, 1}, "99999"}, {api.Nat{65535, 65535}, "4294967295"}, {api.Nat{0, 0, 1}, "4294967296"}, {all(top, 4), "18446744073709551615"}, {power(4), "18446744073709551616"}, {power(8), "340282366920938463463374607431768211456"},
	} {
		if got := big.Text(c.a); got != c.s {
			t.Errorf("Text(%v): %s, not %s", c.a, got, c.s)
		}
		if got, ok := big.Parse(c.s); !slices.Equal(got, c.a) || !ok {
			t.Errorf("Parse(%s): %v, %v, not %v, true", c.s, got, ok, c.a)
		}
	}
}

func TestTextOfPowers(t *testing.T) {
	for n := range 1234 {
		nines, noughts := strings.Repeat("9", n), strings.Repeat("0", n)
		if n > 0 {
			hasText(t, digits(plus(ten(n), -1)), nines)
			hasText(t, digits(plus(ten(n), 1)), "1"+noughts[1:]+"1")
		}
		hasText(t, digits(ten(n)), "1"+noughts)
	}
	for n := 0; n < 4096; n += 13 {
		for k := int64(-1); k < 2; k++ {
			looksAtOne(t, digits(plus(two(n), k)))
		}
	}
}

func hasText(t *testing.T, a api.Nat, want string) {
	t.Helper()
	if got := big.Text(a); got != want {
		t.Errorf("Text of %d digits %v..: %s, not %s", len(a), short(a), got, want)
	}
	if got, ok := big.Parse(want); !slices.Equal(got, a) || !ok {
		t.Errorf("Parse(%s): %v, %v, not %v, true", want, short(got), ok, short(a))
	}
}

// hasNoNat also holds R2: with false there is no Nat.
func hasNoNat(t *testing.T, s string) {
	t.Helper()
	if got, ok := big.Parse(s); len(got) != 0 || ok {
		t.Errorf("Parse of %d bytes %.120q: %v, %v, not none, false", len(s), s, short(got), ok)
	}
}

// The greatest Nat, and the numbers around it, which part in their last digits alone.
func TestTextOfTheGreatest(t *testing.T) {
	hasText(t, all(top, api.MaxNat), plus(bound, -1).String())
	if n := len(big.Text(all(top, api.MaxNat))); n != 1234 {
		t.Errorf("Text of the greatest one: %d digits, not 1234", n)
	}
	for k := int64(1); k < 300; k++ {
		looksAtOne(t, digits(plus(bound, -k)))
		hasNoNat(t, plus(bound, k-1).String())
	}
	for n := range 1234 {
		hasNoNat(t, new(unbound.Int).Add(bound, ten(n)).String())
		looksAtOne(t, digits(new(unbound.Int).Sub(bound, ten(n))))
	}
	for n := 1234; n < 1300; n++ {
		hasNoNat(t, ten(n).String())
		hasNoNat(t, strings.Repeat("9", n))
		hasNoNat(t, strings.Repeat("0", n))
	}
	for n := 4096; n < 4200; n++ {
		hasNoNat(t, two(n).String())
	}
	for _, n := range []int{1234, 1235, 65536, 1 << 20} {
		for _, s := range []string{"9", "0", "1", "a", " ", "-", "\xff", "\x00", "10", "01", "9 "} {
			hasNoNat(t, strings.Repeat(s, n))
			hasNoNat(t, "1"+strings.Repeat(s, n))
			hasNoNat(t, strings.Repeat("0", n)+s)
		}
	}
}

func TestParseOfNoNats(t *testing.T) {
	for _, s := range []string{
		"", "00", "01", "000", "007", "010", "-0", "-1", "+0", "+1", "--1", "-", "+", "1-", "1+", "1e3", "1E3", "1.", ".1", "1.0", "0.0", "0.", ".0", ".", "1,000", "1_0", "0_0", "_1", "1_", "0x0", "0x1", "0X1", "0b1", "0o7", "x", "a", "A", "1a", "a1", "f", "nan", "inf", "NaN", "Infinity",
		" ", " 0", "0 ", " 1", "1 ", "1 2", "\t1", "1\t", "1\n", "\n1", "1\r\n", "\n", "1\v", "/", ":", "1/", "/1", "1:", ":1", "1/1", "1:1", ";", "'1'", `"1"`, "\x00", "0\x00", "\x000", "1\x00", "1\x002", "\x01", "\x09", "\x10", "\x7f",
		"\x80", "\xb0", "\xb1", "1\xb9", "\xaf", "\xba", "\xff", "1\xff", "\xff1", "\xc2\xb9", "\u0660", "\u0661", "1\u0662", "\u0967", "\uff10", "\uff11", "\u00b2", "\u2460", "\U0001D7CE", "\xef\xbb\xbf1", "\u00a01", "1\u00a0", "\u22121",
		"018446744073709551616", "-18446744073709551616", "18446744073709551616 ", "1844674407370955161a", "1844674407 3709551616", "00000000000000000000",
	} {
		hasNoNat(t, s)
	}
	greatest := plus(bound, -1).String()
	for _, s := range []string{"0" + greatest, "0" + greatest[1:], "-" + greatest, "+" + greatest, " " + greatest, greatest + " ", greatest + "0", greatest + "a", "-" + greatest[1:], " " + greatest[1:], greatest[1:] + "\n", greatest[:1233] + "\x00", greatest[:1233] + ":", greatest[:1233] + "/"} {
		hasNoNat(t, s)
	}
}

// Every byte ahead, behind and between digits, or instead of one.
func TestParseOfEachByteAtEachPlace(t *testing.T) {
	greatest := plus(bound, -1).String()
	for _, text := range []string{"", "0", "1", "10", "9999", "18446744073709551616", greatest[:400], greatest[:1232], greatest} {
		for at := range len(text) + 1 {
			if len(text) > 30 && at > 2 && at < len(text)-2 && at%101 != 0 {
				continue
			}
			for c := range 256 {
				one := string([]byte{byte(c)})
				parses(t, text[:at]+one+text[at:])
				if at < len(text) {
					parses(t, text[:at]+one+text[at+1:])
				}
			}
		}
	}
}

// parses holds Parse of any text against an expression and a number without a bound.
func parses(t *testing.T, s string) {
	t.Helper()
	n := new(unbound.Int)
	if decimal.MatchString(s) {
		n.SetString(s, 10)
	} else {
		n = bound
	}
	if n.Cmp(bound) >= 0 {
		hasNoNat(t, s)
		return
	}
	got, ok := big.Parse(s)
	if !slices.Equal(got, digits(n)) || !ok || big.Text(got) != s {
		t.Errorf("Parse(%s): %v, %v", s, short(got), ok)
	}
}

func TestParseOfShortTexts(t *testing.T) {
	signs := []string{"0", "1", "9", "-", " ", ".", "/", ":", "\xff"}
	texts := []string{""}
	for range 4 {
		for _, s := range slices.Clone(texts) {
			for _, sign := range signs {
				texts = append(texts, s+sign)
			}
		}
	}
	for _, s := range texts {
		parses(t, s)
	}
	rnd := rand.New(rand.NewSource(99))
	for range 20000 {
		b := make([]byte, rnd.Intn(40))
		for i := range b {
			b[i] = "0123456789"[rnd.Intn(10)]
		}
		parses(t, string(b))
	}
}

func TestParseOfText(t *testing.T) {
	rnd := rand.New(rand.NewSource(100))
	for range 3000 {
		a := drawn(rnd, length(rnd))
		if got, ok := big.Parse(big.Text(a)); !slices.Equal(got, a) || !ok {
			t.Errorf("Parse of Text of %v: %v, %v", a, got, ok)
		}
	}
}

// Laws of sums and products

func TestSumLessAPart(t *testing.T) {
	rnd := rand.New(rand.NewSource(101))
	for range 5000 {
		a, b := drawn(rnd, min(length(rnd), api.MaxNat-1)), drawn(rnd, min(length(rnd), api.MaxNat-1))
		sum := big.Add(a, b)
		first, ok := big.Sub(sum, b)
		second, too := big.Sub(sum, a)
		if !slices.Equal(first, a) || !slices.Equal(second, b) || !ok || !too {
			t.Errorf("the sum of %v and %v less one of them: %v, %v, %v, %v", a, b, first, second, ok, too)
		}
		if d, ok := big.Sub(a, b); ok && !slices.Equal(big.Add(d, b), a) {
			t.Errorf("the difference of %v and %v, and what was taken: %v", a, b, big.Add(d, b))
		}
	}
}

func TestSumsAndProductsOfWhateverParts(t *testing.T) {
	rnd := rand.New(rand.NewSource(102))
	for range 3000 {
		most := length(rnd) / 3
		a, b, c := drawn(rnd, most), drawn(rnd, most), drawn(rnd, most)
		for i, same := range [][2]api.Nat{
			{big.Add(a, b), big.Add(b, a)}, {big.Mul(a, b), big.Mul(b, a)},
			{big.Add(big.Add(a, b), c), big.Add(a, big.Add(b, c))}, {big.Mul(big.Mul(a, b), c), big.Mul(a, big.Mul(b, c))},
			{big.Mul(a, big.Add(b, c)), big.Add(big.Mul(a, b), big.Mul(a, c))},
			{big.Add(a, nil), a}, {big.Mul(a, api.Nat{1}), a}, {big.Mul(a, nil), nil}, {big.Add(a, a), big.Mul(a, api.Nat{2})},
		} {
			if !slices.Equal(same[0], same[1]) {
				t.Errorf("law %d of %v, %v, %v: %v and %v", i, a, b, c, same[0], same[1])
			}
		}
	}
}

// R4 and R5

// answers are all lists that the calls answer of two rows.
func answers(a, b api.Nat) []api.Nat {
	difference, _ := big.Sub(a, b)
	q, r, _ := big.Div(a, b)
	return []api.Nat{big.Add(a, b), big.Mul(a, b), difference, q, r, big.Up(a, 0), big.Up(a, 16), big.Up(b, 3)}
}

// behind lays a row with other digits behind it, and hands out the row alone.
func behind(a api.Nat) (row, whole api.Nat) {
	whole = slices.Concat(a, api.Nat{0, 7, 65535, 0, 9})
	return whole[:len(a)], whole
}

// rows are few that are Nats, and few that are none.
func rows() []api.Nat {
	return []api.Nat{nil, {1}, {2}, {65535}, {0, 1}, {5, 0, 1}, all(top, 4), all(top, 40), power(api.MaxNat - 1), all(top, api.MaxNat), {0}, {1, 0}, power(api.MaxNat), all(top, api.MaxNat+1)}
}

// scribble writes over an answer, spare room too.
func scribble(a api.Nat, digit int) {
	a = a[:cap(a)]
	for i := range a {
		a[i] = uint16(digit)
	}
}

func TestRowsAreLeftAsTheyAre(t *testing.T) {
	for _, x := range rows() {
		for _, y := range rows() {
			a, wholeA := behind(x)
			b, wholeB := behind(y)
			keptA, keptB := slices.Clone(wholeA), slices.Clone(wholeB)
			big.Is(a)
			big.Small(a)
			big.Bits(a)
			big.Cmp(a, b)
			big.Text(a)
			for _, answer := range slices.Concat(answers(a, b), answers(a, a)) {
				scribble(answer, 12345)
			}
			if !slices.Equal(wholeA, keptA) || !slices.Equal(wholeB, keptB) {
				t.Errorf("of %d digits %v.. and %d digits %v..: a row is changed, or shared", len(x), short(x), len(y), short(y))
			}
		}
	}
}

// No two lists of one answer share memory, nor do two answers.
func TestAnswersAreNew(t *testing.T) {
	for _, x := range rows() {
		for _, y := range rows() {
			first, second := answers(x, y), answers(x, y)
			for i := range first {
				kept := slices.Clone(second)
				for j := range kept {
					kept[j] = slices.Clone(first[j])
				}
				scribble(first[i], 12345+i)
				for j := range first {
					if j != i && !slices.Equal(first[j], kept[j]) || !slices.Equal(second[j], answers(x, y)[j]) {
						t.Errorf("answers %d and %d of %v.. and %v.. share memory", i, j, short(x), short(y))
					}
				}
			}
		}
	}
}

func TestPowersAndParsedAreNew(t *testing.T) {
	for _, c := range [][2]int{{0, 0}, {1, 5}, {2, 1}, {10, 30}, {65535, 1}, {65535, 256}} {
		p, _ := big.Power(c[0], c[1])
		text := big.Text(p)
		read, _ := big.Parse(text)
		scribble(p, 12345)
		again, _ := big.Power(c[0], c[1])
		if !slices.Equal(again, read) || big.Text(read) != text {
			t.Errorf("Power(%d, %d): another answer than before", c[0], c[1])
		}
		scribble(read, 12345)
		if read, _ = big.Parse(text); !slices.Equal(again, read) {
			t.Errorf("Parse(%s): another answer than before", text)
		}
	}
	for _, v := range []uint64{0, 1, 65536, math.MaxUint64} {
		a, b := big.Of(v), big.Of(v)
		scribble(a, 12345)
		if got, ok := big.Small(b); got != v || !ok {
			t.Errorf("Of(%d): shares memory with another answer", v)
		}
	}
}

// R1

func TestNoCallPanics(t *testing.T) {
	rnd := rand.New(rand.NewSource(103))
	for range 3000 {
		a, b := make(api.Nat, rnd.Intn(300)), make(api.Nat, rnd.Intn(300))
		for _, row := range []api.Nat{a, b} {
			for i := range row {
				row[i] = uint16(rnd.Uint32()) >> rnd.Intn(17)
			}
		}
		if big.Is(a) != (len(a) < 257 && (len(a) == 0 || a[len(a)-1] != 0)) {
			t.Errorf("Is of %d digits %v..: %v", len(a), short(a), big.Is(a))
		}
		if big.Is(a) && big.Is(b) {
			looksAtTwo(t, a, b)
		} else {
			hasNothing(t, a, b)
		}
		big.Small(a)
		big.Bits(a)
		big.Text(a)
		big.Up(a, int(rnd.Uint64())>>rnd.Intn(64))
		raises(t, int(rnd.Uint64())>>rnd.Intn(64), int(rnd.Uint64())>>rnd.Intn(64))
		text := make([]byte, rnd.Intn(40))
		rnd.Read(text)
		parses(t, string(text))
	}
}
