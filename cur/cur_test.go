package cur_test

import (
	"bytes"
	"encoding/binary"
	"math"
	"math/rand"
	"testing"

	"propylon/cur"
)

// noWidths are no widths of a number; noCounts are refused by Take where eight bytes are left.
var (
	noWidths = []int{math.MinInt, math.MinInt + 1, -256, -8, -1, 0, 9, 10, 16, 257, 1 << 32, 1<<32 + 1, math.MaxInt - 1, math.MaxInt}
	noCounts = []int{math.MinInt, math.MinInt + 1, -256, -1, 9, 10, 256, 1 << 32, math.MaxInt - 1, math.MaxInt}
)

func stands(t *testing.T, r *cur.Reader, at, left int) {
	t.Helper()
	if r.At() != at || r.Left() != left {
		t.Errorf("at %d with %d left, not at %d with %d left", r.At(), r.Left(), at, left)
	}
}

func holds(t *testing.T, w *cur.Writer, want ...byte) {
	t.Helper()
	if got := w.Bytes(); !bytes.Equal(got, want) || w.Len() != len(want) {
		t.Errorf("laid %x (Len %d), not %x", got, w.Len(), want)
	}
}

// roomy answers the bytes with spare room behind them that is filled with 0xEE.
func roomy(b ...byte) []byte {
	all := append(bytes.Clone(b), bytes.Repeat([]byte{0xEE}, 16)...)
	return all[:len(b)]
}

// spoil writes over a list and over its spare room.
func spoil(b []byte) {
	b = b[:cap(b)]
	for i := range b {
		b[i] ^= 0xA5
	}
}

// P1.1

func TestNewStandsAtTheFirstByte(t *testing.T) {
	stands(t, cur.New([]byte{4, 5, 6}), 0, 3)
	for _, none := range [][]byte{nil, {}} {
		r := cur.New(none)
		stands(t, r, 0, 0)
		if v, ok := r.Byte(); v != 0 || ok {
			t.Errorf("Byte of none: %d, %v", v, ok)
		}
		if b, ok := r.Take(0); len(b) != 0 || !ok {
			t.Errorf("Take(0) of none: %x, %v", b, ok)
		}
		stands(t, r, 0, 0)
	}
}

func TestByteTellsEachByte(t *testing.T) {
	all := make([]byte, 256)
	for i := range all {
		all[i] = byte(i)
	}
	r := cur.New(all)
	for i := range all {
		if v, ok := r.Byte(); v != i || !ok {
			t.Errorf("byte %d: %d, %v", i, v, ok)
		}
		stands(t, r, i+1, 255-i)
	}
	for range 3 {
		if v, ok := r.Byte(); v != 0 || ok {
			t.Errorf("behind the end: %d, %v", v, ok)
		}
		stands(t, r, 256, 0)
	}
}

func TestTake(t *testing.T) {
	r := cur.New([]byte{1, 2, 3, 4, 5, 6, 7})
	steps := []struct {
		n    int
		want []byte
		ok   bool
		at   int
	}{
		{0, nil, true, 0},
		{8, nil, false, 0},
		{-1, nil, false, 0},
		{2, []byte{1, 2}, true, 2},
		{6, nil, false, 2},
		{4, []byte{3, 4, 5, 6}, true, 6},
		{2, nil, false, 6},
		{1, []byte{7}, true, 7},
		{1, nil, false, 7},
		{0, nil, true, 7},
		{-1, nil, false, 7},
	}
	for i, s := range steps {
		if b, ok := r.Take(s.n); !bytes.Equal(b, s.want) || ok != s.ok {
			t.Errorf("step %d: Take(%d): %x, %v", i, s.n, b, ok)
		}
		stands(t, r, s.at, 7-s.at)
	}
}

func TestTakeOfAllAtOnce(t *testing.T) {
	for n := range 40 {
		b := bytes.Repeat([]byte{9}, n)
		r := cur.New(b)
		if got, ok := r.Take(n + 1); len(got) != 0 || ok {
			t.Errorf("Take(%d) of %d: %x, %v", n+1, n, got, ok)
		}
		if got, ok := r.Take(n); !bytes.Equal(got, b) || !ok {
			t.Errorf("Take(%d) of %d: %x, %v", n, n, got, ok)
		}
		stands(t, r, n, 0)
	}
}

func TestTakeRefusesCounts(t *testing.T) {
	r := cur.New([]byte{1, 2, 3, 4, 5, 6, 7, 8, 9})
	r.Byte()
	for _, n := range noCounts {
		if b, ok := r.Take(n); len(b) != 0 || ok {
			t.Errorf("Take(%d): %x, %v", n, b, ok)
		}
		stands(t, r, 1, 8)
	}
}

func TestNumbersOfTheChapter(t *testing.T) {
	if v, ok := cur.New([]byte{1, 2}).Low(2); v != 513 || !ok {
		t.Errorf("Low(2) of 01 02: %d, %v", v, ok)
	}
	if v, ok := cur.New([]byte{1, 2}).High(2); v != 258 || !ok {
		t.Errorf("High(2) of 01 02: %d, %v", v, ok)
	}
}

func TestNumbersOfEachWidth(t *testing.T) {
	b := []byte{0x00, 0xF1, 0xE2, 0xD3, 0xC4, 0xB5, 0xA6, 0x97, 0x88, 0x79}
	low := []uint64{0xF1, 0xE2F1, 0xD3E2F1, 0xC4D3E2F1, 0xB5C4D3E2F1, 0xA6B5C4D3E2F1, 0x97A6B5C4D3E2F1, 0x8897A6B5C4D3E2F1}
	high := []uint64{0xF1, 0xF1E2, 0xF1E2D3, 0xF1E2D3C4, 0xF1E2D3C4B5, 0xF1E2D3C4B5A6, 0xF1E2D3C4B5A697, 0xF1E2D3C4B5A69788}
	for n := 1; n <= 8; n++ {
		r := cur.New(b)
		r.Byte()
		if v, ok := r.Low(n); v != low[n-1] || !ok {
			t.Errorf("Low(%d): %x, %v", n, v, ok)
		}
		stands(t, r, 1+n, 9-n)
		r = cur.New(b)
		r.Byte()
		if v, ok := r.High(n); v != high[n-1] || !ok {
			t.Errorf("High(%d): %x, %v", n, v, ok)
		}
		stands(t, r, 1+n, 9-n)
	}
}

func TestNumbersRefuseWidths(t *testing.T) {
	r := cur.New(bytes.Repeat([]byte{7}, 300))
	r.Take(3)
	for _, n := range noWidths {
		if v, ok := r.Low(n); v != 0 || ok {
			t.Errorf("Low(%d): %x, %v", n, v, ok)
		}
		if v, ok := r.High(n); v != 0 || ok {
			t.Errorf("High(%d): %x, %v", n, v, ok)
		}
		stands(t, r, 3, 297)
	}
	if v, ok := r.Low(1); v != 7 || !ok {
		t.Errorf("Low(1) behind what was refused: %x, %v", v, ok)
	}
}

func TestNumbersNeedTheirBytes(t *testing.T) {
	for left := range 9 {
		b := append([]byte{0xAA}, bytes.Repeat([]byte{0xFF}, left)...)
		for n := 1; n <= 8; n++ {
			want, is, at := uint64(0), left >= n, 1
			if is {
				want, at = math.MaxUint64>>(64-8*n), 1+n
			}
			r := cur.New(b)
			r.Byte()
			if v, ok := r.Low(n); v != want || ok != is {
				t.Errorf("Low(%d) of %d left: %x, %v", n, left, v, ok)
			}
			stands(t, r, at, 1+left-at)
			r = cur.New(b)
			r.Byte()
			if v, ok := r.High(n); v != want || ok != is {
				t.Errorf("High(%d) of %d left: %x, %v", n, left, v, ok)
			}
			stands(t, r, at, 1+left-at)
		}
	}
}

// P1.2

func TestLayIsEmpty(t *testing.T) {
	holds(t, cur.Lay())
}

func TestByteLaysModulo256(t *testing.T) {
	laid := []struct {
		v    int
		want byte
	}{
		{0, 0}, {1, 1}, {127, 127}, {128, 128}, {255, 255}, {256, 0}, {263, 7}, {511, 255}, {1 << 32, 0},
		{-1, 255}, {-2, 254}, {-128, 128}, {-255, 1}, {-256, 0}, {-257, 255},
		{math.MaxInt, 255}, {math.MinInt, 0}, {math.MinInt + 3, 3},
	}
	w := cur.Lay()
	var want []byte
	for _, c := range laid {
		w.Byte(c.v)
		want = append(want, c.want)
		holds(t, w, want...)
	}
}

func TestRaw(t *testing.T) {
	w := cur.Lay()
	w.Raw(nil)
	w.Raw([]byte{})
	holds(t, w)
	w.Raw([]byte{0, 255, 3})
	w.Raw(nil)
	w.Raw([]byte{4})
	holds(t, w, 0, 255, 3, 4)
}

func TestNumbersAreLaid(t *testing.T) {
	const v = 0xF1E2D3C4B5A69788
	low := []byte{0x88, 0x97, 0xA6, 0xB5, 0xC4, 0xD3, 0xE2, 0xF1}
	for n := 1; n <= 8; n++ {
		w := cur.Lay()
		w.Byte(9)
		w.Low(v, n)
		holds(t, w, append([]byte{9}, low[:n]...)...)
		high := []byte{9}
		for i := range n {
			high = append(high, low[n-1-i])
		}
		w = cur.Lay()
		w.Byte(9)
		w.High(v, n)
		holds(t, w, high...)
	}
}

func TestNoWidthLaysNothing(t *testing.T) {
	w := cur.Lay()
	for _, n := range noWidths {
		w.Low(math.MaxUint64, n)
		w.High(math.MaxUint64, n)
		holds(t, w)
	}
	w.Byte(3)
	for _, n := range noWidths {
		w.Low(math.MaxUint64, n)
		w.High(math.MaxUint64, n)
		holds(t, w, 3)
	}
}

func TestSetAtEachPlace(t *testing.T) {
	const v = 0xF1E2D3C4B5A69788
	old := []byte{1, 2, 3, 4, 5, 6, 7, 8, 9, 10}
	for n := 1; n <= 8; n++ {
		for at := -3; at <= len(old)+3; at++ {
			w := cur.Lay()
			w.Raw(old)
			want := bytes.Clone(old)
			is := at >= 0 && at+n <= len(old)
			if is {
				l := cur.Lay()
				l.Low(v, n)
				copy(want[at:], l.Bytes())
			}
			if ok := w.Set(at, v, n); ok != is {
				t.Errorf("Set(%d, .., %d): %v", at, n, ok)
			}
			holds(t, w, want...)
		}
	}
}

func TestSetAtTheVeryEnd(t *testing.T) {
	w := cur.Lay()
	w.Raw([]byte{1, 2, 3})
	if w.Set(3, 0xA1B2, 1) || w.Set(2, 0xA1B2, 2) {
		t.Errorf("Set past the end is done")
	}
	holds(t, w, 1, 2, 3)
	if !w.Set(1, 0xA1B2, 2) {
		t.Errorf("Set of the last two is not done")
	}
	holds(t, w, 1, 0xB2, 0xA1)
	if !w.Set(2, 0xC3, 1) {
		t.Errorf("Set of the last one is not done")
	}
	holds(t, w, 1, 0xB2, 0xC3)
	w.Byte(4)
	holds(t, w, 1, 0xB2, 0xC3, 4)
}

func TestSetOfAllAndOfNone(t *testing.T) {
	w := cur.Lay()
	if w.Set(0, 0, 1) || w.Set(0, 0, 0) {
		t.Errorf("Set is done where nothing was laid")
	}
	holds(t, w)
	w.Raw(make([]byte, 8))
	if !w.Set(0, 0xF1E2D3C4B5A69788, 8) {
		t.Errorf("Set of all eight is not done")
	}
	holds(t, w, 0x88, 0x97, 0xA6, 0xB5, 0xC4, 0xD3, 0xE2, 0xF1)
}

func TestSetRefuses(t *testing.T) {
	w := cur.Lay()
	w.Raw(make([]byte, 300))
	want := w.Bytes()
	for _, n := range noWidths {
		for _, at := range []int{0, 5, math.MinInt, -1, math.MaxInt} {
			if w.Set(at, math.MaxUint64, n) {
				t.Errorf("Set(%d, .., %d) is done", at, n)
			}
		}
	}
	for n := 1; n <= 8; n++ {
		for _, at := range []int{math.MinInt, math.MinInt + 1, -300, -8, -1, 300, 301, 1 << 32, math.MaxInt - 8, math.MaxInt - 1, math.MaxInt} {
			if w.Set(at, math.MaxUint64, n) {
				t.Errorf("Set(%d, .., %d) is done", at, n)
			}
		}
	}
	holds(t, w, want...)
}

// The room that a Writer keeps behind its bytes is no place to Set.
func TestSetStaysWithinLen(t *testing.T) {
	w := cur.Lay()
	for n := range 70 {
		if w.Set(n, 1, 1) {
			t.Errorf("Set(%d, 1, 1) of %d is done", n, n)
		}
		w.Byte(0)
		if got := w.Bytes(); got[n] != 0 {
			t.Errorf("byte %d is %d", n, got[n])
		}
	}
}

// P1.3

func TestEachNumberComesBack(t *testing.T) {
	for n := 1; n <= 8; n++ {
		top := uint64(math.MaxUint64) >> (64 - 8*n)
		for _, v := range []uint64{0, 1, 0x7F, 0x80, 0xFF, top >> 1, top>>1 + 1, top - 1, top} {
			w := cur.Lay()
			w.Low(v, n)
			w.High(v, n)
			r := cur.New(w.Bytes())
			low, ok := r.Low(n)
			high, is := r.High(n)
			if low != v || high != v || !ok || !is || r.Left() != 0 {
				t.Errorf("%x in %d bytes: %x and %x", v, n, low, high)
			}
		}
	}
}

func TestWhatIsCutOffIsModulo(t *testing.T) {
	for n := 1; n <= 7; n++ {
		const v = 0xF1E2D3C4B5A69788
		w := cur.Lay()
		w.Low(v, n)
		w.High(v, n)
		r := cur.New(w.Bytes())
		low, _ := r.Low(n)
		high, _ := r.High(n)
		if want := uint64(v) % (1 << (8 * n)); low != want || high != want {
			t.Errorf("%d bytes: %x and %x, not %x", n, low, high, want)
		}
	}
}

// Rows of calls of all kinds, held against a plain list and against encoding/binary.
func TestRowsComeBack(t *testing.T) {
	rnd := rand.New(rand.NewSource(11))
	for range 2000 {
		w := cur.Lay()
		var want []byte
		var reads []func(*testing.T, *cur.Reader)
		for range rnd.Intn(12) {
			var eight [8]byte
			v, n := rnd.Uint64(), 1+rnd.Intn(8)
			cut := v & (math.MaxUint64 >> (64 - 8*n))
			switch rnd.Intn(5) {
			case 0:
				w.Byte(int(int64(v)))
				want = append(want, byte(v))
				reads = append(reads, readByte(int(byte(v))))
			case 1:
				b := make([]byte, rnd.Intn(20))
				rnd.Read(b)
				w.Raw(b)
				want = append(want, b...)
				reads = append(reads, readTake(b))
			case 2:
				w.Low(v, n)
				binary.LittleEndian.PutUint64(eight[:], v)
				want = append(want, eight[:n]...)
				reads = append(reads, readLow(n, cut))
			case 3:
				w.High(v, n)
				binary.BigEndian.PutUint64(eight[:], v)
				want = append(want, eight[8-n:]...)
				reads = append(reads, readHigh(n, cut))
			case 4:
				at := w.Len()
				w.Raw(make([]byte, n))
				if !w.Set(at, v, n) {
					t.Errorf("Set(%d, .., %d) of %d is not done", at, n, at+n)
				}
				binary.LittleEndian.PutUint64(eight[:], v)
				want = append(want, eight[:n]...)
				reads = append(reads, readLow(n, cut))
			}
		}
		holds(t, w, want...)
		r := cur.New(w.Bytes())
		for _, read := range reads {
			read(t, r)
		}
		stands(t, r, len(want), 0)
	}
}

func readByte(want int) func(*testing.T, *cur.Reader) {
	return func(t *testing.T, r *cur.Reader) {
		if v, ok := r.Byte(); v != want || !ok {
			t.Errorf("Byte: %d, %v, not %d", v, ok, want)
		}
	}
}

func readTake(want []byte) func(*testing.T, *cur.Reader) {
	return func(t *testing.T, r *cur.Reader) {
		if b, ok := r.Take(len(want)); !bytes.Equal(b, want) || !ok {
			t.Errorf("Take: %x, %v, not %x", b, ok, want)
		}
	}
}

func readLow(n int, want uint64) func(*testing.T, *cur.Reader) {
	return func(t *testing.T, r *cur.Reader) {
		if v, ok := r.Low(n); v != want || !ok {
			t.Errorf("Low(%d): %x, %v, not %x", n, v, ok, want)
		}
	}
}

func readHigh(n int, want uint64) func(*testing.T, *cur.Reader) {
	return func(t *testing.T, r *cur.Reader) {
		if v, ok := r.High(n); v != want || !ok {
			t.Errorf("High(%d): %x, %v, not %x", n, v, ok, want)
		}
	}
}

// R4

func TestReaderKeepsNothingOfItsBytes(t *testing.T) {
	b := roomy(1, 2, 3, 4, 5)
	r := cur.New(b)
	spoil(b)
	if got, ok := r.Take(5); !bytes.Equal(got, []byte{1, 2, 3, 4, 5}) || !ok {
		t.Errorf("%x, %v", got, ok)
	}
}

func TestReaderChangesNothingOfItsBytes(t *testing.T) {
	b := roomy(1, 2, 3, 4, 5)
	was := bytes.Clone(b[:cap(b)])
	r := cur.New(b)
	r.Byte()
	r.Low(1)
	r.High(1)
	got, _ := r.Take(2)
	spoil(got)
	if !bytes.Equal(b[:cap(b)], was) {
		t.Errorf("%x, not %x", b[:cap(b)], was)
	}
}

func TestTakesShareNothing(t *testing.T) {
	r := cur.New([]byte{1, 2, 3, 4, 5, 6, 7})
	none, _ := r.Take(0)
	first, _ := r.Take(2)
	second, _ := r.Take(3)
	spoil(none)
	spoil(first)
	if !bytes.Equal(second, []byte{3, 4, 5}) {
		t.Errorf("the second one is %x", second)
	}
	spoil(second)
	third, ok := r.Take(2)
	if !bytes.Equal(third, []byte{6, 7}) || !ok {
		t.Errorf("the third one is %x, %v", third, ok)
	}
}

func TestReadersShareNothing(t *testing.T) {
	b := []byte{1, 2, 3}
	r, s := cur.New(b), cur.New(b)
	got, _ := r.Take(3)
	spoil(got)
	stands(t, s, 0, 3)
	if other, ok := s.Take(3); !bytes.Equal(other, []byte{1, 2, 3}) || !ok {
		t.Errorf("%x, %v", other, ok)
	}
}

func TestWriterKeepsNothingOfWhatIsLaid(t *testing.T) {
	for _, ahead := range [][]byte{nil, {9}} {
		w := cur.Lay()
		w.Raw(ahead)
		b := roomy(1, 2, 3)
		was := bytes.Clone(b[:cap(b)])
		w.Raw(b)
		w.Byte(4)
		w.Low(5, 2)
		w.Set(0, 7, 1)
		if !bytes.Equal(b[:cap(b)], was) {
			t.Errorf("%x, not %x", b[:cap(b)], was)
		}
		want := w.Bytes()
		spoil(b)
		holds(t, w, want...)
	}
}

func TestBytesAreNewMemory(t *testing.T) {
	w := cur.Lay()
	for n := range 70 {
		first, second := w.Bytes(), w.Bytes()
		was := bytes.Clone(second)
		spoil(first)
		if !bytes.Equal(second, was) {
			t.Errorf("of %d bytes: two answers share memory", n)
		}
		holds(t, w, was...)
		w.Byte(n)
		spoil(second)
		if n > 0 {
			w.Set(n-1, uint64(n-1), 1)
		}
		holds(t, w, append(was, byte(n))...)
	}
}

func TestWhatWasAnsweredStays(t *testing.T) {
	w := cur.Lay()
	w.Raw([]byte{1, 2, 3})
	got := w.Bytes()
	w.Set(0, 0xFFFFFF, 3)
	w.Byte(4)
	if !bytes.Equal(got, []byte{1, 2, 3}) {
		t.Errorf("%x", got)
	}
}

func TestWritersShareNothing(t *testing.T) {
	v, w := cur.Lay(), cur.Lay()
	v.Byte(1)
	w.Byte(2)
	v.Byte(3)
	holds(t, v, 1, 3)
	holds(t, w, 2)
}
