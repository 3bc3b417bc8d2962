// Package cur: bytes one behind the other: see DOC.md, chapter 1.
package cur

// Reader: see chapter 1.
type Reader struct {
	all []byte // a copy of its own, so that nobody else can change it
	at  int
}

// New: see chapter 1.
func New(b []byte) *Reader {
	return &Reader{all: fresh(b)}
}

// Byte: see chapter 1.
func (r *Reader) Byte() (int, bool) {
	b, ok := r.pass(1)
	if !ok {
		return 0, false
	}
	return int(b[0]), true
}

// Take: see chapter 1.
func (r *Reader) Take(n int) ([]byte, bool) {
	b, ok := r.pass(n)
	if !ok {
		return nil, false
	}
	return fresh(b), true
}

// Low: see chapter 1.
func (r *Reader) Low(n int) (uint64, bool) {
	b, ok := r.number(n)
	if !ok {
		return 0, false
	}
	v := uint64(0)
	for i := range b {
		v |= uint64(b[i]) << (8 * i)
	}
	return v, true
}

// High: see chapter 1.
func (r *Reader) High(n int) (uint64, bool) {
	b, ok := r.number(n)
	if !ok {
		return 0, false
	}
	v := uint64(0)
	for i := range b {
		v = v<<8 | uint64(b[i])
	}
	return v, true
}

// At: see chapter 1.
func (r *Reader) At() int {
	return r.at
}

// Left: see chapter 1.
func (r *Reader) Left() int {
	return len(r.all) - r.at
}

// pass goes behind the next n bytes. They are the Reader's own: none of them may be handed out but as a copy.
func (r *Reader) pass(n int) ([]byte, bool) {
	if n < 0 || n > r.Left() {
		return nil, false
	}
	from := r.at
	r.at += n
	return r.all[from:r.at], true
}

// number is pass for the bytes of a number. It looks at n ahead of pass, as a refused call must not move.
func (r *Reader) number(n int) ([]byte, bool) {
	if !isWidth(n) {
		return nil, false
	}
	return r.pass(n)
}

// Writer: see chapter 1.
type Writer struct {
	all []byte
}

// Lay: see chapter 1.
func Lay() *Writer {
	return &Writer{}
}

// Byte: see chapter 1.
func (w *Writer) Byte(v int) {
	w.all = append(w.all, byte(v))
}

// Raw: see chapter 1.
func (w *Writer) Raw(b []byte) {
	w.all = append(w.all, b...)
}

// Low: see chapter 1.
func (w *Writer) Low(v uint64, n int) {
	if !isWidth(n) {
		return
	}
	for i := range n {
		w.all = append(w.all, byteOf(v, i))
	}
}

// High: see chapter 1.
func (w *Writer) High(v uint64, n int) {
	if !isWidth(n) {
		return
	}
	for i := range n {
		w.all = append(w.all, byteOf(v, n-1-i))
	}
}

// Set: see chapter 1.
func (w *Writer) Set(at int, v uint64, n int) bool {
	// n is taken from the length, not added to at: at may be so great that the sum would wrap round.
	if !isWidth(n) || at < 0 || at > len(w.all)-n {
		return false
	}
	for i := range n {
		w.all[at+i] = byteOf(v, i)
	}
	return true
}

// Len: see chapter 1.
func (w *Writer) Len() int {
	return len(w.all)
}

// Bytes: see chapter 1.
func (w *Writer) Bytes() []byte {
	return fresh(w.all)
}

func isWidth(n int) bool {
	return 1 <= n && n <= 8
}

func byteOf(v uint64, place int) byte {
	return byte(v >> (8 * place))
}

// fresh copies by make, as append would leave spare room that hangs on how it grows.
func fresh(b []byte) []byte {
	c := make([]byte, len(b))
	copy(c, b)
	return c
}
