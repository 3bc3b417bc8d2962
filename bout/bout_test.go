package bout_test

import (
	"encoding/binary"
	"fmt"
	"math"
	"math/rand"
	"slices"
	"strconv"
	"strings"
	"testing"

	"propylon/api"
	"propylon/bout"
	"propylon/size"
	"propylon/tree"
)

const (
	id      = "abcdefghijkl"
	maxSize = 1 << 24
)

// rule says what a value of a Kind is made of: 8, 4, 1 Bits in as many bytes, d Low and High, t a text, e Text and More with a byte 0 each, y a Binary, o Bytes, k Kids, s a Scoped.
type rule struct {
	kind int
	has  string
}

// rules are the chapter's, with the Kinds' numbers written out anew.
var rules = []rule{
	{1, "8"}, {9, "8"}, {17, "8"}, {18, "8"}, {16, "4"}, {8, "1"}, {19, "d"},
	{2, "t"}, {13, "t"}, {14, "t"}, {11, "e"}, {5, "y"}, {7, "o"}, {12, "to"},
	{3, "k"}, {4, "k"}, {15, "s"}, {6, ""}, {10, ""}, {255, ""}, {127, ""},
}

// noKinds are numbers of no Kind: beside those that are one, and such as have a Kind's number in their lowest bits.
var noKinds = []int{
	math.MinInt, math.MinInt + 3, -1 << 32, -1<<32 + 3, -256, -253, -129, -128, -127, -3, -1, 0,
	20, 21, 99, 126, 128, 254, 256, 257, 259, 383, 511, 1<<16 + 3, 1<<32 + 3, 1<<32 + 127, 1 << 62, math.MaxInt,
}

// texts are empty, of one byte, of many, of characters of each length, and of as many bytes as fill the bytes of a length.
var texts = []string{
	"", "a", "ab", "0", "$a", "a.b", " ", "\x01", "\x7f", "\u0080", "\u07ff", "\u20ac", "\uffff", "\U0001f600", "\U0010ffff", "a\u20acb\U0001f600\u00e9",
	strings.Repeat("x", 250), strings.Repeat("x", 254), strings.Repeat("x", 255), strings.Repeat("x", 256), strings.Repeat("\u20ac", 1000), strings.Repeat("y", 65534), strings.Repeat("y", 65535), strings.Repeat("y", 70000),
}

// noughts have a byte 0, as Texts may and Names may not.
var noughts = []string{"\x00", "\x00\x00", "a\x00", "\x00a", "a\x00b", "\u20ac\x00\u20ac", "\x00" + strings.Repeat("x", 300)}

// bits are numbers whose bytes are all unlike, and those at the edges of bytes.
var bits = []uint64{
	0, 1, 2, 0x7f, 0x80, 0xff, 0x100, 0x0102, 0xffff, 1 << 16, 0x01020304, 1<<31 - 1, 1 << 31, 1<<32 - 2, 1<<32 - 1, 1 << 32,
	0x0102030405060708, 0xf1e2d3c4b5a69788, 0x3ff0000000000000, 0x8000000000000000, 0x7ff8000000000001, 0xfff0000000000001, 1<<63 - 1, 1<<64 - 2, 1<<64 - 1,
}

func field(name string, v api.Value) api.Field { return api.Field{Name: name, Value: v} }
func doc(kids ...api.Field) api.Value          { return api.Value{Kind: api.Document, Kids: kids} }
func array(kids ...api.Field) api.Value        { return api.Value{Kind: api.Array, Kids: kids} }
func scoped(text string, kids ...api.Field) api.Value {
	return api.Value{Kind: api.Scoped, Text: text, Kids: kids}
}
func null() api.Value                    { return api.Value{Kind: api.Null} }
func num(n uint64) api.Value             { return api.Value{Kind: api.Int32, Bits: n} }
func of(kind int, n uint64) api.Value    { return api.Value{Kind: kind, Bits: n} }
func str(s string) api.Value             { return api.Value{Kind: api.String, Text: s} }
func text(kind int, s string) api.Value  { return api.Value{Kind: kind, Text: s} }
func bin(sub int, s string) api.Value    { return api.Value{Kind: api.Binary, Sub: sub, Bytes: []byte(s)} }
func regex(text, more string) api.Value  { return api.Value{Kind: api.Regex, Text: text, More: more} }
func decimal(high, low uint64) api.Value { return api.Value{Kind: api.Decimal, High: high, Low: low} }
func object(id string) api.Value         { return api.Value{Kind: api.ObjectID, Bytes: []byte(id)} }
func pointer(text, id string) api.Value {
	return api.Value{Kind: api.Pointer, Text: text, Bytes: []byte(id)}
}
func kids(kind int, l ...api.Field) api.Value { return api.Value{Kind: kind, Kids: l} }

// sized is a document of n bytes.
func sized(n int) api.Value { return doc(field("", str(strings.Repeat("x", n-12)))) }

func ruleOf(kind int) string {
	for _, r := range rules {
		if r.kind == kind {
			return r.has
		}
	}
	return ""
}

func hasKids(kind int) bool { return kind == 3 || kind == 4 || kind == 15 }

// low4 is a number of 4 bytes, the lowest one first.
func low4(n int) string { return string([]byte{byte(n), byte(n >> 8), byte(n >> 16), byte(n >> 24)}) }

func low8(n uint64) string { return string(binary.LittleEndian.AppendUint64(nil, n)) }

// whole is the document of some elements' bytes.
func whole(elements string) string { return low4(len(elements)+5) + elements + "\x00" }

// simple are the bytes of a value that has no Kids.
func simple(v api.Value) string {
	switch ruleOf(v.Kind) {
	case "8":
		return low8(v.Bits)
	case "4":
		return low8(v.Bits)[:4]
	case "1":
		return low8(v.Bits)[:1]
	case "d":
		return low8(v.Low) + low8(v.High)
	case "t":
		return low4(len(v.Text)+1) + v.Text + "\x00"
	case "e":
		return v.Text + "\x00" + v.More + "\x00"
	case "y":
		if v.Sub == 2 {
			return low4(len(v.Bytes)+4) + "\x02" + low4(len(v.Bytes)) + string(v.Bytes)
		}
		return low4(len(v.Bytes)) + string([]byte{byte(v.Sub)}) + string(v.Bytes)
	case "o":
		return string(v.Bytes)
	case "to":
		return low4(len(v.Text)+1) + v.Text + "\x00" + string(v.Bytes)
	}
	return ""
}

// step is one of those that laid goes: bytes, a value, or the length of what ends at a place.
type step struct {
	sort int
	raw  string
	v    *api.Value
	end  int
}

// laid is what Encode should answer. It is made from its end on, without recursion, so that each length is known where it is laid.
func laid(v api.Value) string {
	n := size.Of(v)
	b := make([]byte, n)
	at := n
	const isRaw, isValue, isLength = 0, 1, 2
	for todo := []step{{sort: isValue, v: &v}}; len(todo) > 0; {
		s := todo[len(todo)-1]
		todo = todo[:len(todo)-1]
		switch s.sort {
		case isRaw:
			at -= len(s.raw)
			copy(b[at:], s.raw)
		case isLength:
			at -= 4
			copy(b[at:], low4(s.end-at))
		case isValue:
			if !hasKids(s.v.Kind) {
				todo = append(todo, step{raw: simple(*s.v)})
				continue
			}
			if s.v.Kind == api.Scoped {
				todo = append(todo, step{sort: isLength, end: at}, step{raw: low4(len(s.v.Text)+1) + s.v.Text + "\x00"})
			}
			todo = append(todo, step{sort: isLength, end: at})
			for i := range s.v.Kids {
				kid := &s.v.Kids[i]
				todo = append(todo, step{raw: string([]byte{byte(kid.Value.Kind)}) + kid.Name + "\x00"}, step{sort: isValue, v: &kid.Value})
			}
			todo = append(todo, step{raw: "\x00"})
		}
	}
	if at != 0 {
		panic("the bytes are not as many as they should be")
	}
	return string(b)
}

// reader reads BSON back, and takes no byte that is not just as the chapter has it.
type reader struct {
	b   string
	bad bool
}

func (r *reader) take(n int) string {
	if n < 0 || n > len(r.b) {
		r.bad = true
		return ""
	}
	s := r.b[:n]
	r.b = r.b[n:]
	return s
}

func (r *reader) number(n int) uint64 {
	s, v := r.take(n), uint64(0)
	for i := range len(s) {
		v |= uint64(s[i]) << (8 * i)
	}
	return v
}

func (r *reader) ended() string {
	s := r.take(strings.IndexByte(r.b, 0))
	if r.take(1) != "\x00" {
		r.bad = true
	}
	return s
}

func (r *reader) text() string {
	s := r.take(int(r.number(4)))
	if !strings.HasSuffix(s, "\x00") {
		r.bad = true
		return ""
	}
	return s[:len(s)-1]
}

// part is a reader of as many bytes as the next number tells, with those of the number.
func (r *reader) part() *reader {
	return &reader{b: r.take(int(r.number(4)) - 4)}
}

func (r *reader) kids() []api.Field {
	p := r.part()
	var l []api.Field
	for !p.bad && len(p.b) > 1 {
		kind := int(p.number(1))
		name := p.ended()
		l = append(l, field(name, p.value(kind)))
	}
	r.bad = r.bad || p.bad || p.b != "\x00"
	return l
}

func (r *reader) value(kind int) api.Value {
	v := api.Value{Kind: kind}
	switch kind {
	case 1, 9, 17, 18:
		v.Bits = r.number(8)
	case 16:
		v.Bits = r.number(4)
	case 8:
		v.Bits = r.number(1)
	case 19:
		v.Low = r.number(8)
		v.High = r.number(8)
	case 2, 13, 14:
		v.Text = r.text()
	case 11:
		v.Text = r.ended()
		v.More = r.ended()
	case 5:
		n := int(r.number(4))
		v.Sub = int(r.number(1))
		if v.Sub == 2 {
			r.bad = r.bad || int(r.number(4)) != n-4
			n -= 4
		}
		v.Bytes = []byte(r.take(n))
	case 7:
		v.Bytes = []byte(r.take(12))
	case 12:
		v.Text = r.text()
		v.Bytes = []byte(r.take(12))
	case 3, 4:
		v.Kids = r.kids()
	case 15:
		p := r.part()
		v.Text = p.text()
		v.Kids = p.kids()
		r.bad = r.bad || p.bad || p.b != ""
	case 6, 10, 255, 127:
	default:
		r.bad = true
	}
	return v
}

// read is the document that b is, all of it.
func read(b []byte) (api.Value, bool) {
	r := &reader{b: string(b)}
	v := doc(r.kids()...)
	return v, !r.bad && r.b == ""
}

// nested are as many values of the Kinds in one another, with v in the innermost one.
func nested(v api.Value, depth int, kinds ...int) api.Value {
	for i := range depth {
		v = api.Value{Kind: kinds[(depth-1-i)%len(kinds)], Kids: []api.Field{field("", v)}}
	}
	return v
}

// laden has all fields that its Kind has other than zero.
func laden(kind int) api.Value {
	v := api.Value{Kind: kind}
	for _, letter := range ruleOf(kind) {
		switch letter {
		case '8':
			v.Bits = 0x0102030405060708
		case '4':
			v.Bits = 0x01020304
		case '1':
			v.Bits = 1
		case 'd':
			v.High, v.Low = 0x0102030405060708, 0x1112131415161718
		case 't':
			v.Text = "te\u20act"
		case 'e':
			v.Text, v.More = "p\u00e9", "imx"
		case 'y':
			v.Sub, v.Bytes = 2, []byte("\x00\xff\x02")
		case 'o':
			v.Bytes = []byte(id)
		case 'k':
			v.Kids = []api.Field{field("b", null()), field("a", str("s")), field("b", doc())}
		case 's':
			v.Text, v.Kids = "code", []api.Field{field("x", num(7)), field("", array())}
		}
	}
	return v
}

// bare has as few bytes as its Kind takes.
func bare(kind int) api.Value {
	v := api.Value{Kind: kind}
	if kind == api.ObjectID || kind == api.Pointer {
		v.Bytes = make([]byte, 12)
	}
	return v
}

// rich has values of each Kind, at several depths.
func rich() api.Value {
	var l []api.Field
	for _, r := range rules {
		l = append(l, field(strconv.Itoa(r.kind), laden(r.kind)), field("", bare(r.kind)))
	}
	return doc(field("a", array(l...)), field("b", scoped("f", field("c", doc(l...)))), field("d", doc(l[:5]...)))
}

// documents are those at which Encode is held.
func documents() []api.Value {
	l := []api.Value{doc(), rich(), nested(rich(), 7, api.Document, api.Scoped, api.Array), doc(field("", doc()), field("", array()), field("", scoped("")))}
	for _, r := range rules {
		for _, v := range []api.Value{laden(r.kind), bare(r.kind)} {
			l = append(l, doc(field("", v)), doc(field("x", v), field("x", v)), doc(field("\u20ac", array(field("a", v), field("b", doc(field("c", v)))))), nested(v, 4, api.Document, api.Scoped))
		}
	}
	return l
}

// roomy is a copy whose lists have spare room that is filled.
func roomy(v api.Value) api.Value {
	v.Bytes = append(slices.Clone(v.Bytes), "zzzzzzzzzzzz"...)[:len(v.Bytes)]
	kids := append(slices.Clone(v.Kids), field("\xff", num(9)), field("spare", doc()))[:len(v.Kids)]
	for i := range kids {
		kids[i].Value = roomy(kids[i].Value)
	}
	v.Kids = kids
	return v
}

// emptied is a copy that has empty lists where v has nil ones.
func emptied(v api.Value) api.Value {
	v.Bytes = append([]byte{}, v.Bytes...)
	v.Kids = append([]api.Field{}, v.Kids...)
	for i := range v.Kids {
		v.Kids[i].Value = emptied(v.Kids[i].Value)
	}
	return v
}

// picture tells all that a tree has, what is in its spare room too.
func picture(v api.Value) string {
	var b strings.Builder
	fmt.Fprintf(&b, "%d %d %d %d %q %q %d %d %x (", v.Kind, v.Bits, v.High, v.Low, v.Text, v.More, v.Sub, len(v.Bytes), v.Bytes[:cap(v.Bytes)])
	for i, kid := range v.Kids[:cap(v.Kids)] {
		if i == len(v.Kids) {
			b.WriteString("| ")
		}
		fmt.Fprintf(&b, "%q: %s ", kid.Name, picture(kid.Value))
	}
	b.WriteString(")")
	return b.String()
}

// cut keeps what a test tells short.
func cut(v any) string {
	s := fmt.Sprintf("%+q", fmt.Sprint(v))
	if len(s) > 300 {
		return s[:300] + ".."
	}
	return s
}

// gives holds Encode of a document that is such: its bytes, how many they are, and that they are read back as it.
func gives(t *testing.T, v api.Value, want string) {
	t.Helper()
	b, f := bout.Encode(v)
	if f.Err != api.OK || f.At != 0 || f.Path != nil {
		t.Errorf("Encode(%s): %v", cut(v), f)
		return
	}
	if string(b) != want {
		t.Errorf("Encode(%s): %s, not %s", cut(v), cut(fmt.Sprintf("%x", b)), cut(fmt.Sprintf("%x", want)))
		return
	}
	if len(b) != size.Of(v) {
		t.Errorf("Encode(%s): %d bytes, and Of tells %d", cut(v), len(b), size.Of(v))
	}
	if cap(b) != len(b) {
		t.Errorf("Encode(%s): room for %d bytes behind %d", cut(v), cap(b), len(b))
	}
	if b[len(b)-1] != 0 {
		t.Errorf("Encode(%s): the last byte is %d", cut(v), b[len(b)-1])
	}
	if got, ok := read(b); !ok || !tree.Same(got, v) {
		t.Errorf("Encode(%s): read back as %s, %v", cut(v), cut(got), ok)
	}
}

// refuses holds Encode of what is wrong, twice by R5.
func refuses(t *testing.T, v api.Value, e api.Errno, path ...int) {
	t.Helper()
	for range 2 {
		b, f := bout.Encode(v)
		if len(b) != 0 || f.Err != e || f.At != 0 || !slices.Equal(f.Path, path) {
			t.Errorf("Encode(%s): %d bytes, %v; not %d at %v", cut(v), len(b), f, e, path)
		}
	}
}

// holds holds a value as a Kid of a document, of an array, and of a scope, and twice in a document; its bytes stand behind its Name.
func holds(t *testing.T, v api.Value, want string) {
	t.Helper()
	kind := string([]byte{byte(v.Kind)})
	element := kind + "k\x00" + want
	gives(t, doc(field("k", v)), whole(element))
	gives(t, doc(field("", v), field("\u20ac", v)), whole(kind+"\x00"+want+kind+"\xe2\x82\xac\x00"+want))
	gives(t, doc(field("a", array(field("k", v)))), whole("\x04a\x00"+whole(element)))
	gives(t, doc(field("a", null()), field("s", scoped("c", field("k", v))), field("z", null())), whole("\x0aa\x00\x0fs\x00"+low4(len(element)+15)+"\x02\x00\x00\x00c\x00"+whole(element)+"\x0az\x00"))
}

// P20.1

// Each Kind, with the bytes of a document that has it under the Name k.
func TestEachKindByteByByte(t *testing.T) {
	for _, c := range []struct {
		v    api.Value
		want string
	}{
		{of(api.Double, 0x0102030405060708), "\x10\x00\x00\x00\x01k\x00\x08\x07\x06\x05\x04\x03\x02\x01\x00"},
		{of(api.Double, 0), "\x10\x00\x00\x00\x01k\x00\x00\x00\x00\x00\x00\x00\x00\x00\x00"},
		{of(api.Double, 0x3ff8000000000000), "\x10\x00\x00\x00\x01k\x00\x00\x00\x00\x00\x00\x00\xf8\x3f\x00"},
		{of(api.Double, 1<<64-1), "\x10\x00\x00\x00\x01k\x00\xff\xff\xff\xff\xff\xff\xff\xff\x00"},
		{of(api.Date, 0xf1e2d3c4b5a69788), "\x10\x00\x00\x00\x09k\x00\x88\x97\xa6\xb5\xc4\xd3\xe2\xf1\x00"},
		{of(api.Date, 1<<64-1), "\x10\x00\x00\x00\x09k\x00\xff\xff\xff\xff\xff\xff\xff\xff\x00"},
		{of(api.Timestamp, 0x1112131415161718), "\x10\x00\x00\x00\x11k\x00\x18\x17\x16\x15\x14\x13\x12\x11\x00"},
		{of(api.Timestamp, 1<<32), "\x10\x00\x00\x00\x11k\x00\x00\x00\x00\x00\x01\x00\x00\x00\x00"},
		{of(api.Int64, 0x2122232425262728), "\x10\x00\x00\x00\x12k\x00\x28\x27\x26\x25\x24\x23\x22\x21\x00"},
		{of(api.Int64, 1<<63), "\x10\x00\x00\x00\x12k\x00\x00\x00\x00\x00\x00\x00\x00\x80\x00"},
		{num(0x01020304), "\x0c\x00\x00\x00\x10k\x00\x04\x03\x02\x01\x00"},
		{num(0), "\x0c\x00\x00\x00\x10k\x00\x00\x00\x00\x00\x00"},
		{num(1<<32 - 1), "\x0c\x00\x00\x00\x10k\x00\xff\xff\xff\xff\x00"},
		{of(api.Bool, 0), "\x09\x00\x00\x00\x08k\x00\x00\x00"},
		{of(api.Bool, 1), "\x09\x00\x00\x00\x08k\x00\x01\x00"},
		{decimal(0x0102030405060708, 0x1112131415161718), "\x18\x00\x00\x00\x13k\x00\x18\x17\x16\x15\x14\x13\x12\x11\x08\x07\x06\x05\x04\x03\x02\x01\x00"},
		{decimal(0x3040000000000000, 15), "\x18\x00\x00\x00\x13k\x00\x0f\x00\x00\x00\x00\x00\x00\x00\x00\x00\x00\x00\x00\x00\x40\x30\x00"},
		{decimal(0, 1<<64-1), "\x18\x00\x00\x00\x13k\x00\xff\xff\xff\xff\xff\xff\xff\xff\x00\x00\x00\x00\x00\x00\x00\x00\x00"},
		{decimal(1<<64-1, 0), "\x18\x00\x00\x00\x13k\x00\x00\x00\x00\x00\x00\x00\x00\x00\xff\xff\xff\xff\xff\xff\xff\xff\x00"},
		{str(""), "\x0d\x00\x00\x00\x02k\x00\x01\x00\x00\x00\x00\x00"},
		{str("a"), "\x0e\x00\x00\x00\x02k\x00\x02\x00\x00\x00a\x00\x00"},
		{str("a\x00b"), "\x10\x00\x00\x00\x02k\x00\x04\x00\x00\x00a\x00b\x00\x00"},
		{str("\u00e9\u20ac\U0001f600"), "\x16\x00\x00\x00\x02k\x00\x0a\x00\x00\x00\xc3\xa9\xe2\x82\xac\xf0\x9f\x98\x80\x00\x00"},
		{text(api.Code, "f()"), "\x10\x00\x00\x00\x0dk\x00\x04\x00\x00\x00f()\x00\x00"},
		{text(api.Symbol, "s"), "\x0e\x00\x00\x00\x0ek\x00\x02\x00\x00\x00s\x00\x00"},
		{regex("", ""), "\x0a\x00\x00\x00\x0bk\x00\x00\x00\x00"},
		{regex("a.b", "im"), "\x0f\x00\x00\x00\x0bk\x00a.b\x00im\x00\x00"},
		{regex("", "x"), "\x0b\x00\x00\x00\x0bk\x00\x00x\x00\x00"},
		{regex("\u20ac", ""), "\x0d\x00\x00\x00\x0bk\x00\xe2\x82\xac\x00\x00\x00"},
		{bin(0, ""), "\x0d\x00\x00\x00\x05k\x00\x00\x00\x00\x00\x00\x00"},
		{bin(0, "\x07"), "\x0e\x00\x00\x00\x05k\x00\x01\x00\x00\x00\x00\x07\x00"},
		{bin(128, "\x01\x00\xff"), "\x10\x00\x00\x00\x05k\x00\x03\x00\x00\x00\x80\x01\x00\xff\x00"},
		{bin(255, "xy"), "\x0f\x00\x00\x00\x05k\x00\x02\x00\x00\x00\xffxy\x00"},
		{bin(2, ""), "\x11\x00\x00\x00\x05k\x00\x04\x00\x00\x00\x02\x00\x00\x00\x00\x00"},
		{bin(2, "x"), "\x12\x00\x00\x00\x05k\x00\x05\x00\x00\x00\x02\x01\x00\x00\x00x\x00"},
		{bin(2, "xyz"), "\x14\x00\x00\x00\x05k\x00\x07\x00\x00\x00\x02\x03\x00\x00\x00xyz\x00"},
		{bin(3, "0123456789abcdef"), "\x1d\x00\x00\x00\x05k\x00\x10\x00\x00\x00\x030123456789abcdef\x00"},
		{object("\x00\x01\x02\x03\x04\x05\x06\x07\x08\x09\x0a\xff"), "\x14\x00\x00\x00\x07k\x00\x00\x01\x02\x03\x04\x05\x06\x07\x08\x09\x0a\xff\x00"},
		{pointer("", id), "\x19\x00\x00\x00\x0ck\x00\x01\x00\x00\x00\x00abcdefghijkl\x00"},
		{pointer("db.c", id), "\x1d\x00\x00\x00\x0ck\x00\x05\x00\x00\x00db.c\x00abcdefghijkl\x00"},
		{doc(), "\x0d\x00\x00\x00\x03k\x00\x05\x00\x00\x00\x00\x00"},
		{doc(field("x", num(1))), "\x14\x00\x00\x00\x03k\x00\x0c\x00\x00\x00\x10x\x00\x01\x00\x00\x00\x00\x00"},
		{array(), "\x0d\x00\x00\x00\x04k\x00\x05\x00\x00\x00\x00\x00"},
		{array(field("0", null()), field("1", null())), "\x13\x00\x00\x00\x04k\x00\x0b\x00\x00\x00\x0a0\x00\x0a1\x00\x00\x00"},
		{scoped(""), "\x16\x00\x00\x00\x0fk\x00\x0e\x00\x00\x00\x01\x00\x00\x00\x00\x05\x00\x00\x00\x00\x00"},
		{scoped("f"), "\x17\x00\x00\x00\x0fk\x00\x0f\x00\x00\x00\x02\x00\x00\x00f\x00\x05\x00\x00\x00\x00\x00"},
		{scoped("f", field("x", num(1)), field("y", null())), "\x21\x00\x00\x00\x0fk\x00\x19\x00\x00\x00\x02\x00\x00\x00f\x00\x0f\x00\x00\x00\x10x\x00\x01\x00\x00\x00\x0ay\x00\x00\x00"},
		{api.Value{Kind: api.Undefined}, "\x08\x00\x00\x00\x06k\x00\x00"},
		{null(), "\x08\x00\x00\x00\x0ak\x00\x00"},
		{api.Value{Kind: api.MinKey}, "\x08\x00\x00\x00\xffk\x00\x00"},
		{api.Value{Kind: api.MaxKey}, "\x08\x00\x00\x00\x7fk\x00\x00"},
	} {
		if int(c.want[0]) != len(c.want) {
			t.Fatalf("%s tells %d bytes, and has %d", cut(c.v), c.want[0], len(c.want))
		}
		gives(t, doc(field("k", c.v)), c.want)
		holds(t, c.v, c.want[7:len(c.want)-1])
	}
}

// Documents that others have written out.
func TestKnownDocuments(t *testing.T) {
	gives(t, doc(field("hello", str("world"))), "\x16\x00\x00\x00\x02hello\x00\x06\x00\x00\x00world\x00\x00")
	gives(t, doc(field("BSON", array(field("0", str("awesome")), field("1", of(api.Double, 0x4014333333333333)), field("2", num(1986))))), "1\x00\x00\x00\x04BSON\x00&\x00\x00\x00\x020\x00\x08\x00\x00\x00awesome\x00\x011\x00333333\x14@\x102\x00\xc2\x07\x00\x00\x00\x00")
}

func TestNumbers(t *testing.T) {
	for _, n := range bits {
		b := []byte{byte(n), byte(n >> 8), byte(n >> 16), byte(n >> 24), byte(n >> 32), byte(n >> 40), byte(n >> 48), byte(n >> 56)}
		for _, kind := range []int{1, 9, 17, 18} {
			holds(t, of(kind, n), string(b))
		}
		if n < 1<<32 {
			holds(t, num(n), string(b[:4]))
		}
		if n <= 1 {
			holds(t, of(api.Bool, n), string(b[:1]))
		}
		holds(t, decimal(n, 0), "\x00\x00\x00\x00\x00\x00\x00\x00"+string(b))
		holds(t, decimal(0, n), string(b)+"\x00\x00\x00\x00\x00\x00\x00\x00")
		holds(t, decimal(^n, n), string(b)+low8(^n))
	}
	for i := range 64 {
		for _, kind := range []int{1, 9, 17, 18} {
			holds(t, of(kind, 1<<i), low8(1<<i))
		}
		holds(t, decimal(1<<i, 1<<(63-i)), low8(1<<(63-i))+low8(1<<i))
	}
	for i := range 32 {
		holds(t, num(1<<i), low8(1 << i)[:4])
	}
}

func TestTexts(t *testing.T) {
	for _, s := range slices.Concat(texts, noughts) {
		n := len(s)
		for _, kind := range []int{2, 13, 14} {
			holds(t, text(kind, s), low4(n+1)+s+"\x00")
		}
		holds(t, pointer(s, id), low4(n+1)+s+"\x00"+id)
		holds(t, scoped(s), low4(n+14)+low4(n+1)+s+"\x00\x05\x00\x00\x00\x00")
		holds(t, scoped(s, field("a", str(s))), low4(n+14+n+8)+low4(n+1)+s+"\x00"+low4(n+13)+"\x02a\x00"+low4(n+1)+s+"\x00\x00")
	}
	for _, s := range texts {
		for _, more := range texts[:20] {
			holds(t, regex(s, more), s+"\x00"+more+"\x00")
		}
	}
}

func TestBinaries(t *testing.T) {
	all := make([]byte, 256)
	for i := range all {
		all[i] = byte(i)
	}
	for sub := range 256 {
		for _, s := range []string{"", "\x00", "\xff", "\x02\x00\x00\x00xy", string(all), strings.Repeat("z", 255), strings.Repeat("z", 252), strings.Repeat("z", 66000)} {
			n, one := len(s), string([]byte{byte(sub)})
			if sub == 2 {
				holds(t, bin(sub, s), low4(n+4)+one+low4(n)+s)
			} else if len(s) < 1000 || sub < 5 || sub > 126 && sub < 130 || sub == 255 {
				holds(t, bin(sub, s), low4(n)+one+s)
			}
		}
	}
	for _, b := range all {
		s := strings.Repeat(string([]byte{b}), 12)
		holds(t, object(s), s)
		holds(t, pointer("db", s), "\x03\x00\x00\x00db\x00"+s)
	}
}

func TestNames(t *testing.T) {
	for _, one := range texts {
		gives(t, doc(field(one, null())), whole("\x0a"+one+"\x00"))
		for _, other := range texts[:18] {
			elements := "\x10" + one + "\x00\x07\x00\x00\x00\x0a" + other + "\x00\x08" + one + "\x00\x01"
			l := []api.Field{field(one, num(7)), field(other, null()), field(one, of(api.Bool, 1))}
			gives(t, doc(l...), whole(elements))
			gives(t, doc(field(other, array(l...))), whole("\x04"+other+"\x00"+whole(elements)))
			gives(t, doc(field(other, scoped("", l...))), whole("\x0f"+other+"\x00"+low4(len(elements)+14)+"\x01\x00\x00\x00\x00"+whole(elements)))
		}
	}
}

// An Array's Names stand as they are, and where they are.
func TestNamesOfAnArray(t *testing.T) {
	for _, names := range [][]string{{"0", "1", "2"}, {"2", "1", "0"}, {"", "", ""}, {"x", "0", "x"}, {"00", "-1", "1.0"}, {"7"}, {"\u20ac", "$a", "a.b", "1"}, {"0", "1", "2", "3", "4", "5", "6", "7", "8", "9", "10", "11"}} {
		var l []api.Field
		elements := ""
		for i, name := range names {
			l = append(l, field(name, num(uint64(i))))
			elements += "\x10" + name + "\x00" + low4(i)
		}
		gives(t, doc(field("a", array(l...))), whole("\x04a\x00"+whole(elements)))
		gives(t, doc(l...), whole(elements))
	}
}

// Kids stand in their order, whatever that is.
func TestOrder(t *testing.T) {
	var l []api.Field
	for i, r := range rules {
		l = append(l, field(string(rune('a'+i)), laden(r.kind)), field("", bare(r.kind)))
	}
	elementOf := func(f api.Field) string {
		b := laid(doc(f))
		return b[4 : len(b)-1]
	}
	d := rand.New(rand.NewSource(7))
	for range 300 {
		d.Shuffle(len(l), func(i, j int) { l[i], l[j] = l[j], l[i] })
		n := d.Intn(len(l) + 1)
		elements := ""
		for _, f := range l[:n] {
			elements += elementOf(f)
		}
		gives(t, doc(l[:n]...), whole(elements))
	}
}

func TestDocuments(t *testing.T) {
	gives(t, doc(), "\x05\x00\x00\x00\x00")
	for _, v := range documents() {
		gives(t, v, laid(v))
		gives(t, roomy(v), laid(v))
		gives(t, emptied(v), laid(v))
	}
}

// A document in a document has just the bytes that it has alone.
func TestDocumentsInDocuments(t *testing.T) {
	for _, v := range documents() {
		b := laid(v)
		holds(t, v, b)
		holds(t, kids(api.Array, v.Kids...), b)
		holds(t, scoped("ab", v.Kids...), low4(len(b)+11)+"\x03\x00\x00\x00ab\x00"+b)
	}
}

func TestDeep(t *testing.T) {
	for _, depth := range []int{1, 2, 3, 36, 37, 199, 200, 201, 1000, 1001, 1<<13 + 1, 1<<16 - 1} {
		for _, kinds := range [][]int{{api.Document}, {api.Document, api.Array}, {api.Document, api.Scoped}, {api.Document, api.Scoped, api.Array}} {
			v := nested(null(), depth, kinds...)
			gives(t, v, laid(v))
		}
		v := nested(rich(), depth, api.Document)
		gives(t, v, laid(v))
	}
	head, tail := "", ""
	for i := range 50 {
		head += low4(7*(50-i)+5) + "\x03\x00"
		tail += "\x00"
	}
	gives(t, nested(doc(), 50, api.Document), head+"\x05\x00\x00\x00\x00"+tail)
}

func TestWide(t *testing.T) {
	for _, n := range []int{1, 2, 17, 18, 255, 256, 4681, 100000} {
		elements := strings.Repeat("\x10w\x00\x04\x03\x02\x01", n)
		l := slices.Repeat([]api.Field{field("w", num(0x01020304))}, n)
		gives(t, doc(l...), whole(elements))
		gives(t, doc(field("a", array(l...)), field("s", scoped("c", l...))), whole("\x04a\x00"+whole(elements)+"\x0fs\x00"+low4(len(elements)+15)+"\x02\x00\x00\x00c\x00"+whole(elements)))
	}
	v := doc(slices.Repeat([]api.Field{field("", rich()), field("x", scoped("y", field("z", rich())))}, 200)...)
	gives(t, v, laid(v))
}

// drawer draws documents of all sorts.
type drawer struct{ *rand.Rand }

func (d drawer) fields(depth int) []api.Field {
	var l []api.Field
	for range d.Intn(5) {
		l = append(l, field(strings.ReplaceAll(d.text(), "\x00", "n"), d.tree(depth)))
	}
	return l
}

func (d drawer) tree(depth int) api.Value {
	v := bare(rules[d.Intn(len(rules))].kind)
	if depth > 0 && d.Intn(2) == 0 {
		v = api.Value{Kind: []int{3, 4, 15}[d.Intn(3)]}
	}
	for _, letter := range ruleOf(v.Kind) {
		switch letter {
		case '8':
			v.Bits = d.Uint64() >> d.Intn(64)
		case '4':
			v.Bits = uint64(d.Uint32()) >> d.Intn(32)
		case '1':
			v.Bits = uint64(d.Intn(2))
		case 'd':
			v.High, v.Low = d.Uint64(), d.Uint64()
		case 't', 's':
			v.Text = d.text()
		case 'e':
			v.Text, v.More = strings.ReplaceAll(d.text(), "\x00", ""), strings.ReplaceAll(d.text(), "\x00", "")
		case 'y':
			v.Sub, v.Bytes = []int{0, 2, 2, 5, 128, d.Intn(256)}[d.Intn(6)], make([]byte, d.Intn(20))
			d.Read(v.Bytes)
		case 'o':
			d.Read(v.Bytes)
		}
	}
	if hasKids(v.Kind) && depth > 0 {
		v.Kids = d.fields(depth - 1 - d.Intn(depth))
	}
	return v
}

func (d drawer) text() string {
	s := ""
	for range d.Intn(6) {
		s += []string{"\x00", "a", "b", "0", "$", "\u00e9", "\u20ac", "\U0001f600", "\uffff", "xyz"}[d.Intn(10)]
	}
	return s
}

// Drawn documents are written as they should be, and no two that are unlike as the same bytes.
func TestDrawnDocuments(t *testing.T) {
	d := drawer{rand.New(rand.NewSource(201))}
	seen := map[string]api.Value{}
	for range 20000 {
		v := doc(d.fields(d.Intn(6))...)
		want := laid(v)
		gives(t, v, want)
		b, _ := bout.Encode(v)
		if other, ok := seen[string(b)]; ok && !tree.Same(v, other) {
			t.Errorf("%s and %s have the same bytes", cut(v), cut(other))
		}
		seen[string(b)] = v
		if t.Failed() {
			return
		}
	}
	if len(seen) < 10000 {
		t.Errorf("%d documents alone", len(seen))
	}
}

// Unlike documents have unlike bytes: such as differ in one thing.
func TestUnlikeDocuments(t *testing.T) {
	values := []api.Value{
		num(0), num(1), num(1 << 8), num(1 << 24), num(1<<32 - 1), of(8, 0), of(8, 1), decimal(0, 0), decimal(0, 1), decimal(1, 0), decimal(1, 1),
		regex("", ""), regex("a", ""), regex("", "a"), regex("ab", "c"), regex("a", "bc"), object(id), object(id[1:] + "a"), pointer("", id), pointer("a", id), pointer("", id[1:]+"a"),
		doc(), array(), doc(field("", null())), array(field("", null())), doc(field("0", null())), array(field("0", null())), doc(field("", null()), field("", null())), doc(field("", doc())), doc(field("", array())), array(field("", doc())),
		doc(field("a", null()), field("b", num(1))), doc(field("b", num(1)), field("a", null())), doc(field("a", num(1)), field("b", null())), doc(field("a", null()), field("a", null())),
		scoped(""), scoped("a"), scoped("", field("a", null())), scoped("a", field("a", null())), scoped("\x05\x00\x00\x00\x00"),
	}
	for _, kind := range []int{1, 9, 17, 18} {
		for _, n := range bits {
			values = append(values, of(kind, n))
		}
	}
	for _, kind := range []int{2, 13, 14} {
		for _, s := range slices.Concat(texts, noughts) {
			values = append(values, text(kind, s))
		}
	}
	for _, sub := range []int{0, 1, 2, 3, 4, 128, 254, 255} {
		for _, s := range []string{"", "\x00", "\x00\x00\x00\x00", "\x00\x00\x00\x00\x00", "\x01\x00\x00\x00\x00", "xy"} {
			values = append(values, bin(sub, s))
		}
	}
	for _, kind := range []int{6, 10, 127, 255} {
		values = append(values, api.Value{Kind: kind})
	}
	seen := map[string]api.Value{}
	for _, v := range values {
		for _, v := range []api.Value{doc(field("", v)), doc(field("a", v)), doc(field("", v), field("", null())), doc(field("", null()), field("", v)), doc(field("", doc(field("x", v)))), doc(field("", array(field("x", v)))), doc(field("", scoped("y", field("x", v))))} {
			gives(t, v, laid(v))
			b, _ := bout.Encode(v)
			if other, ok := seen[string(b)]; ok && !tree.Same(v, other) {
				t.Errorf("%s and %s have the same bytes", cut(v), cut(other))
			}
			seen[string(b)] = v
		}
	}
}

// One Kid more lays its bytes ahead of the last one, and changes the length alone.
func TestOneKidMore(t *testing.T) {
	for _, v := range documents() {
		for _, r := range rules {
			for _, kid := range []api.Field{field("", laden(r.kind)), field("\u20acx", bare(r.kind))} {
				before, _ := bout.Encode(v)
				after, f := bout.Encode(doc(append(slices.Clone(v.Kids), kid)...))
				element := string([]byte{byte(r.kind)}) + kid.Name + "\x00" + body(kid.Value)
				want := low4(len(before)+len(element)) + string(before[4:len(before)-1]) + element + "\x00"
				if string(after) != want || f.Err != api.OK {
					t.Errorf("%s and %s: %s, %v", cut(v), cut(kid), cut(fmt.Sprintf("%x", after)), f)
				}
			}
		}
	}
}

// body are the bytes of a value without those ahead of it.
func body(v api.Value) string {
	b := laid(doc(field("", v)))
	return b[6 : len(b)-1]
}

// P20.2: errors

// wrongs are values that are wrong in themselves, wherever they stand.
var wrongs = []struct {
	v api.Value
	e api.Errno
}{
	{api.Value{Kind: 99}, api.ErrKind}, {api.Value{}, api.ErrKind}, {of(api.Bool, 2), api.ErrArg}, {num(1 << 32), api.ErrArg}, {num(1<<64 - 1), api.ErrArg}, {api.Value{Kind: api.Binary, Sub: 256}, api.ErrArg}, {api.Value{Kind: api.Binary, Sub: -1}, api.ErrArg}, {api.Value{Kind: api.Binary, Sub: -254}, api.ErrArg}, {api.Value{Kind: api.Binary, Sub: 258}, api.ErrArg},
	{object(id[1:]), api.ErrArg}, {object(id + "m"), api.ErrArg}, {object(""), api.ErrArg}, {pointer("a", ""), api.ErrArg}, {pointer("a", id+"m"), api.ErrArg}, {of(api.Null, 1), api.ErrArg}, {text(api.Null, "a"), api.ErrArg}, {api.Value{Kind: api.String, More: "a"}, api.ErrArg}, {kids(api.String, field("a", null())), api.ErrArg}, {api.Value{Kind: api.Document, Text: "a"}, api.ErrArg}, {api.Value{Kind: api.Array, Sub: 2}, api.ErrArg},
	{str("\xff"), api.ErrText}, {text(api.Code, "a\xe2\x82"), api.ErrText}, {text(api.Symbol, "\xed\xa0\x80"), api.ErrText}, {pointer("\xc0\x80", id), api.ErrText}, {scoped("\xff"), api.ErrText}, {scoped("\xff", field("a", null())), api.ErrText}, {regex("\x00", ""), api.ErrText}, {regex("", "a\x00"), api.ErrText}, {regex("a", "\xff"), api.ErrText},
}

func TestWrongValues(t *testing.T) {
	for _, w := range wrongs {
		refuses(t, w.v, w.e)
		refuses(t, doc(field("a", w.v)), w.e, 0)
		refuses(t, array(field("a", w.v)), w.e, 0)
		refuses(t, scoped("", field("a", null()), field("a", w.v)), w.e, 1)
		refuses(t, doc(field("a", null()), field("b", doc(field("c", null()), field("d", doc()), field("e", w.v)))), w.e, 1, 2)
		refuses(t, doc(field("a", scoped("x", field("b", array(field("0", w.v), field("1", w.v))), field("c", w.v)))), w.e, 0, 0, 0)
		for _, kind := range []int{3, 4, 15} {
			refuses(t, doc(field("a", nested(w.v, 300, kind))), w.e, make([]int, 301)...)
		}
		for _, v := range documents() {
			n := len(v.Kids)
			refuses(t, doc(append(slices.Clone(v.Kids), field("w", w.v))...), w.e, n)
		}
	}
	for _, kind := range noKinds {
		refuses(t, api.Value{Kind: kind}, api.ErrKind)
		refuses(t, doc(field("a", null()), field("b", api.Value{Kind: kind})), api.ErrKind, 1)
		refuses(t, api.Value{Kind: kind, Kids: sized(maxSize + 1).Kids}, api.ErrKind)
	}
}

func TestWrongNames(t *testing.T) {
	for _, name := range []string{"\x00", "a\x00", "\x00a", "a\x00b", "\xff", "\xe2\x82", "a\xed\xa0\x80"} {
		for _, r := range rules {
			v := laden(r.kind)
			refuses(t, doc(field(name, v)), api.ErrText, 0)
			refuses(t, doc(field("a", v), field(name, v)), api.ErrText, 1)
			refuses(t, doc(field("a", array(field("0", v), field("1", v), field(name, v)))), api.ErrText, 0, 2)
			refuses(t, array(field(name, v)), api.ErrText, 0)
		}
	}
}

// Of several that are wrong it is the first one, as chapter 17 has them.
func TestSeveralWrong(t *testing.T) {
	for _, one := range wrongs {
		for _, other := range wrongs {
			refuses(t, doc(field("a", one.v), field("b", other.v)), one.e, 0)
			refuses(t, doc(field("a", doc(field("x", null()), field("y", one.v))), field("b", other.v)), one.e, 0, 1)
			refuses(t, doc(field("a", null()), field("b", doc(field("x", one.v))), field("\xff", other.v)), one.e, 1, 0)
		}
	}
	refuses(t, doc(field("\xff", num(1<<40))), api.ErrArg, 0)
	refuses(t, doc(field("\xff", api.Value{Kind: 20, Text: "\xff"})), api.ErrKind, 0)
	refuses(t, api.Value{Kind: api.Document, Bits: 1, Kids: []api.Field{field("a", api.Value{})}}, api.ErrArg)
}

// All that tree.Check finds is told ahead of everything else.
func TestCheckAheadOfAll(t *testing.T) {
	great := bin(0, strings.Repeat("x", maxSize))
	for _, w := range wrongs {
		refuses(t, doc(field("a", great), field("b", w.v)), w.e, 1)
		refuses(t, doc(field("b", w.v), field("a", great)), w.e, 0)
		refuses(t, array(field("a", great), field("b", great), field("c", w.v)), w.e, 2)
	}
	refuses(t, doc(field("a", str(strings.Repeat("x", maxSize)+"\xff"))), api.ErrText, 0)
	refuses(t, api.Value{Kind: api.Document, Bits: 1, Kids: sized(maxSize + 1).Kids}, api.ErrArg)
}

func TestNoDocument(t *testing.T) {
	great := []api.Field{field("a", str(strings.Repeat("x", maxSize)))}
	for _, r := range rules {
		if r.kind == api.Document {
			continue
		}
		refuses(t, bare(r.kind), api.ErrKind)
		refuses(t, laden(r.kind), api.ErrKind)
	}
	refuses(t, array(rich().Kids...), api.ErrKind)
	refuses(t, scoped("a", rich().Kids...), api.ErrKind)
	refuses(t, array(great...), api.ErrKind)
	refuses(t, scoped("a", great...), api.ErrKind)
	refuses(t, great[0].Value, api.ErrKind)
	refuses(t, bin(0, great[0].Value.Text), api.ErrKind)
}

// grown are documents of just n bytes, by what makes them great.
func grown(n int) []api.Value {
	fill := func(spare int) string { return strings.Repeat("x", n-spare) }
	return []api.Value{
		sized(n), doc(field(fill(7), null())), doc(field("", bin(2, fill(16)))), doc(field("", bin(0, fill(12)))), doc(field("", regex(fill(9), ""))), doc(field("", regex("", fill(9)))), doc(field("a", scoped(fill(22)))), doc(field("a", pointer(fill(25), id))),
		doc(field("a", array(field("0", str(fill(21)))))), doc(append(slices.Repeat([]api.Field{field("a", num(7))}, 1<<20), field("", str(fill(12+7<<20))))...),
		nested(str(fill(7*30000+5)), 30000, api.Document), nested(str(fill(7*100+16*100+5)), 200, api.Document, api.Scoped),
	}
}

func TestSize(t *testing.T) {
	for _, n := range []int{maxSize, maxSize + 1} {
		for i, v := range grown(n) {
			if size.Of(v) != n {
				t.Fatalf("number %d has %d bytes, not %d", i, size.Of(v), n)
			}
			b, f := bout.Encode(v)
			if n > maxSize {
				if len(b) != 0 || f.Err != api.ErrSize || f.At != 0 || len(f.Path) != 0 {
					t.Errorf("number %d of %d bytes: %d, %v", i, n, len(b), f)
				}
				continue
			}
			if f.Err != api.OK || len(b) != n || string(b) != laid(v) {
				t.Errorf("number %d of %d bytes: %d, %v", i, n, len(b), f)
			}
		}
	}
	for _, n := range []int{maxSize + 2, 1 << 25, 1<<26 + 5} {
		refuses(t, sized(n), api.ErrSize)
	}
}

// P20.3

func TestAsManyAsSizeTells(t *testing.T) {
	for n := 12; n < 2000; n++ {
		b, f := bout.Encode(sized(n))
		if len(b) != n || f.Err != api.OK || int(binary.LittleEndian.Uint32(b)) != n {
			t.Errorf("%d bytes: %d, %v", n, len(b), f)
		}
	}
	for n := 1; n < maxSize; n = n*2 + 1 {
		for _, n := range []int{n + 12, n + 13, n + 14} {
			b, f := bout.Encode(sized(min(n, maxSize)))
			if len(b) != min(n, maxSize) || f.Err != api.OK || int(binary.LittleEndian.Uint32(b)) != len(b) {
				t.Errorf("%d bytes: %d, %v", n, len(b), f)
			}
		}
	}
}

// R1

func TestAnyArguments(t *testing.T) {
	numbers := []int{math.MinInt, -256, -254, -1, 0, 1, 2, 3, 255, 256, 258, math.MaxInt}
	var allKinds []int
	for _, r := range rules {
		allKinds = append(allKinds, r.kind)
	}
	for _, kind := range slices.Concat(allKinds, noKinds) {
		for _, sub := range numbers {
			for _, b := range []string{"", "x", id, id + "m"} {
				for _, s := range []string{"", "t", "\x00", "\xff"} {
					for _, l := range [][]api.Field{nil, {}, {field("", null())}, {field("\xff", api.Value{Kind: kind, Sub: sub})}} {
						v := api.Value{Kind: kind, Bits: uint64(sub), High: uint64(len(b)), Text: s, More: s, Sub: sub, Bytes: []byte(b), Kids: l}
						for _, v := range []api.Value{v, {Kind: kind, Sub: sub, Bytes: []byte(b)}, {Kind: kind, Text: s, Bytes: []byte(b)}, {Kind: kind, Text: s, Kids: l}, {Kind: kind, Bits: uint64(sub)}} {
							answers(t, v)
							answers(t, doc(field(s, v)))
						}
					}
				}
			}
		}
	}
}

// answers holds Encode of anything at all against Check, the Kind, and what is to be laid.
func answers(t *testing.T, v api.Value) {
	t.Helper()
	path, e := tree.Check(v)
	switch {
	case e != api.OK:
		refuses(t, v, e, path...)
	case v.Kind != api.Document:
		refuses(t, v, api.ErrKind)
	default:
		gives(t, v, laid(v))
	}
}

// R4

// shared has the same lists at several places.
func shared() api.Value {
	b := []byte("abcdefghijklmnop")
	l := []api.Field{field("x", api.Value{Kind: api.Binary, Sub: 2, Bytes: b[:4]}), field("y", api.Value{Kind: api.Binary, Bytes: b[2:]}), field("z", doc()), field("o", api.Value{Kind: api.ObjectID, Bytes: b[:12]})}
	return doc(field("a", array(l...)), field("b", array(l[:2]...)), field("c", doc(l[1:]...)), field("d", api.Value{Kind: api.Binary, Bytes: b[:0]}), field("e", doc(l[:0]...)), field("f", api.Value{Kind: api.Pointer, Bytes: b[4:]}))
}

func TestArgumentsAreLeftAsTheyAre(t *testing.T) {
	l := append(documents(), shared(), array(rich().Kids...))
	for _, w := range wrongs {
		l = append(l, w.v, doc(field("a", rich()), field("b", w.v)))
	}
	for _, v := range l {
		for _, v := range []api.Value{v, roomy(v), emptied(v)} {
			before := picture(v)
			answers(t, v)
			if picture(v) != before {
				t.Errorf("%s was changed", cut(v))
			}
		}
	}
}

// What is answered is new memory: to change it changes neither what was handed in nor a later answer.
func TestAnswersAreNewMemory(t *testing.T) {
	for _, v := range append(documents(), shared(), doc(field("b", bin(0, strings.Repeat("x", 100000))))) {
		before, want := picture(v), laid(v)
		b, _ := bout.Encode(v)
		other, _ := bout.Encode(v)
		clear(b[:cap(b)])
		if picture(v) != before {
			t.Errorf("%s was changed with its bytes", cut(v))
		}
		if string(other) != want {
			t.Errorf("the bytes of %s changed with others", cut(v))
		}
		gives(t, v, want)
	}
}

// An answer stays as it is when what was handed in is changed.
func TestNothingIsShared(t *testing.T) {
	v := rich()
	b, _ := bout.Encode(v)
	want := laid(v)
	spoil(v)
	if string(b) != want {
		t.Errorf("the bytes changed with the tree")
	}
}

func spoil(v api.Value) {
	for i := range v.Bytes {
		v.Bytes[i] ^= 0xff
	}
	for i := range v.Kids {
		spoil(v.Kids[i].Value)
		v.Kids[i] = api.Field{}
	}
}

func TestPathsAreNewMemory(t *testing.T) {
	v := doc(field("a", null()), field("b", doc(field("c", null()), field("d", of(api.Bool, 2)))))
	_, f := bout.Encode(v)
	_, g := bout.Encode(v)
	clear(f.Path[:cap(f.Path)])
	if !slices.Equal(g.Path, []int{1, 1}) {
		t.Errorf("the path changed with another: %v", g.Path)
	}
	refuses(t, v, api.ErrArg, 1, 1)
}

// R3, R5: nothing is kept of what an earlier call was given, one that was refused too.
func TestNothingIsKept(t *testing.T) {
	v := doc(field("a", bin(0, "xy")))
	for range 3 {
		refuses(t, doc(field("a", str("\xff"))), api.ErrText, 0)
		refuses(t, array(), api.ErrKind)
		refuses(t, sized(maxSize+1), api.ErrSize)
		gives(t, v, "\x0f\x00\x00\x00\x05a\x00\x02\x00\x00\x00\x00xy\x00")
		gives(t, doc(), "\x05\x00\x00\x00\x00")
	}
	v.Kids[0].Value.Sub = 2
	gives(t, v, "\x13\x00\x00\x00\x05a\x00\x06\x00\x00\x00\x02\x02\x00\x00\x00xy\x00")
	v.Kids[0].Name = ""
	v.Kids[0].Value.Bytes[1] = 0
	gives(t, v, "\x12\x00\x00\x00\x05\x00\x06\x00\x00\x00\x02\x02\x00\x00\x00x\x00\x00")
	v.Kids = v.Kids[:0]
	gives(t, v, "\x05\x00\x00\x00\x00")
}
