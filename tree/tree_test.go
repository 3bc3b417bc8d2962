package tree_test

import (
	"fmt"
	"math"
	"math/rand"
	"slices"
	"strconv"
	"strings"
	"testing"
	"unicode/utf8"

	"propylon/api"
	"propylon/tree"
)

const all = 1<<64 - 1

// shape says what a value of a Kind has: b Bits, h High, l Low, t Text, m More, s Sub, y Bytes, k Kids.
type shape struct {
	kind int
	name string
	has  string
}

// shapes are those of the chapter's table, with the Kinds' numbers and names written out anew.
var shapes = []shape{
	{1, "double", "b"}, {9, "date", "b"}, {17, "timestamp", "b"}, {18, "int64", "b"}, {16, "int32", "b"}, {8, "bool", "b"}, {19, "decimal", "hl"},
	{2, "string", "t"}, {13, "code", "t"}, {14, "symbol", "t"}, {11, "regex", "tm"}, {5, "binary", "sy"}, {7, "objectid", "y"}, {12, "pointer", "ty"},
	{3, "document", "k"}, {4, "array", "k"}, {15, "scoped", "tk"}, {6, "undefined", ""}, {10, "null", ""}, {255, "minkey", ""}, {127, "maxkey", ""},
}

// noKinds are numbers of no Kind: beside those that are one, and such as have a Kind's number in their lowest bits.
var noKinds = []int{
	math.MinInt, math.MinInt + 1, math.MinInt + 3, math.MinInt32, -1 << 32, -1<<32 + 3, -256, -255, -254, -253, -129, -128, -127, -19, -3, -2, -1, 0,
	20, 21, 22, 32, 63, 64, 100, 125, 126, 128, 129, 200, 253, 254, 256, 257, 258, 259, 275, 383, 511, 512, 1 << 16, 1<<16 + 3, math.MaxInt32, 1 << 32, 1<<32 + 1, 1<<32 + 3, 1<<32 + 127, 1 << 62, math.MaxInt - 1, math.MaxInt,
}

// wholes are texts that are whole, of characters of each length.
var wholes = []string{"", "a", "0", "$a", "a.b", " ", "\n", "\x01", "\x7f", "\u0080", "\u07ff", "\u0800", "\u20ac", "\ud7ff", "\ue000", "\ufffd", "\uffff", "\U00010000", "\U0001f600", "\U0010ffff", "a\u20acb\U0001f600", strings.Repeat("x", 1000), strings.Repeat("\u20ac", 1000)}

// noughts are whole, with a byte 0: alone, ahead, in the midst, behind, and far behind.
var noughts = []string{"\x00", "\x00\x00", "\x00a", "a\x00", "a\x00b", "a\x00\u20ac", "\u20ac\x00", strings.Repeat("x", 1000) + "\x00", "\x00" + strings.Repeat("x", 1000)}

// broken are texts that are not whole; some have a byte 0, too.
var broken = []string{
	"\xff", "\xfe", "\x80", "\xbf", "\xc0", "\xc0\x80", "\xc1\xbf", "\xc2", "\xdf", "\xe0\x80\x80", "\xe0\x9f\xbf", "\xe2\x82", "\xe2", "\xed\xa0\x80", "\xed\xbf\xbf", "\xed\xa0\xbd\xed\xb8\x80", "\xef\xbf", "\xf0\x80\x80\x80", "\xf0\x8f\xbf\xbf", "\xf0\x9f\x98", "\xf4\x90\x80\x80", "\xf5\x80\x80\x80",
	"a\xff", "\xffa", "a\xffb", "\u20ac\x80", "\xe2\x82a", "a\x00\xff", "\xff\x00", "\xc2\x00", strings.Repeat("x", 1000) + "\xff", "\xff" + strings.Repeat("x", 1000),
}

// letters are those of all fields that a value can have beside its Kind.
const letters = "bhltmsyk"

func field(name string, v api.Value) api.Field {
	return api.Field{Name: name, Value: v}
}

func doc(kids ...api.Field) api.Value {
	return api.Value{Kind: api.Document, Kids: kids}
}

func array(kids ...api.Field) api.Value {
	return api.Value{Kind: api.Array, Kids: kids}
}

func scoped(text string, kids ...api.Field) api.Value {
	return api.Value{Kind: api.Scoped, Text: text, Kids: kids}
}

func null() api.Value {
	return api.Value{Kind: api.Null}
}

// Values that are wrong in one thing each.
func noKind() api.Value      { return api.Value{Kind: 99} }
func noBool() api.Value      { return api.Value{Kind: api.Bool, Bits: 2} }
func noText() api.Value      { return api.Value{Kind: api.String, Text: "\xff"} }
func twelve() []byte         { return []byte("abcdefghijkl") }
func many(n int) []byte      { return slices.Repeat([]byte{0xA7}, n) }
func str(s string) api.Value { return api.Value{Kind: api.String, Text: s} }

func shapeOf(kind int) (shape, bool) {
	for _, s := range shapes {
		if s.kind == kind {
			return s, true
		}
	}
	return shape{}, false
}

// plain is a value of the Kind, with the fewest that it has.
func plain(kind int) api.Value {
	v := api.Value{Kind: kind}
	if kind == 7 || kind == 12 {
		v.Bytes = twelve()
	}
	return v
}

// goods are values of each Kind, each field that it has at its least, at its greatest, and in between.
func goods() []api.Value {
	var l []api.Value
	for _, kind := range []int{1, 9, 17, 18} {
		for _, bits := range []uint64{0, 1, 2, 1<<31 - 1, 1 << 31, 1<<32 - 1, 1 << 32, 1<<63 - 1, 1 << 63, all - 1, all} {
			l = append(l, api.Value{Kind: kind, Bits: bits})
		}
	}
	for _, bits := range []uint64{0, 1, 2, 1<<31 - 1, 1 << 31, 1<<31 + 1, 1<<32 - 2, 1<<32 - 1} {
		l = append(l, api.Value{Kind: api.Int32, Bits: bits})
	}
	l = append(l, api.Value{Kind: api.Bool}, api.Value{Kind: api.Bool, Bits: 1})
	for _, high := range []uint64{0, 1, 1 << 63, all} {
		for _, low := range []uint64{0, 1, 1 << 63, all} {
			l = append(l, api.Value{Kind: api.Decimal, High: high, Low: low})
		}
	}
	for _, s := range slices.Concat(wholes, noughts) {
		for _, kind := range []int{2, 13, 14, 15} {
			l = append(l, api.Value{Kind: kind, Text: s})
		}
		l = append(l, api.Value{Kind: api.Pointer, Text: s, Bytes: twelve()}, api.Value{Kind: api.Scoped, Text: s, Kids: []api.Field{field("a", null()), field("", doc())}})
	}
	for _, s := range wholes {
		l = append(l, api.Value{Kind: api.Regex, Text: s}, api.Value{Kind: api.Regex, More: s}, api.Value{Kind: api.Regex, Text: s, More: s})
	}
	for sub := range 256 {
		l = append(l, api.Value{Kind: api.Binary, Sub: sub}, api.Value{Kind: api.Binary, Sub: sub, Bytes: []byte{0, 255, 0x80}})
	}
	for n := range 20 {
		l = append(l, api.Value{Kind: api.Binary, Sub: 2, Bytes: many(n)})
	}
	l = append(l, api.Value{Kind: api.Binary, Bytes: many(100000)})
	for _, b := range [][]byte{twelve(), make([]byte, 12), many(12), []byte("\xff\xfe\x00\x80\xc0\xff\xff\xff\xff\xff\xff\xff")} {
		l = append(l, api.Value{Kind: api.ObjectID, Bytes: b}, api.Value{Kind: api.Pointer, Bytes: b})
	}
	l = append(l, doc(), array(), scoped(""), doc(field("a", null())), array(field("0", null())), array(field("x", null()), field("x", null()), field("", doc())), doc(field("a", null()), field("a", null()), field("a", doc())))
	for _, kind := range []int{6, 10, 255, 127} {
		l = append(l, api.Value{Kind: kind})
	}
	return l
}

// fills are what else than zero a field may hold, by its letter.
func fills(letter rune) []func(v *api.Value) {
	var l []func(v *api.Value)
	switch letter {
	case 'b', 'h', 'l':
		for _, n := range []uint64{1, 2, 255, 1 << 31, 1<<32 - 1, 1 << 32, 1<<32 + 1, 1 << 63, all} {
			l = append(l, func(v *api.Value) {
				switch letter {
				case 'b':
					v.Bits = n
				case 'h':
					v.High = n
				default:
					v.Low = n
				}
			})
		}
	case 't', 'm':
		for _, s := range []string{"a", "\x00", "\xff", "\u20ac", strings.Repeat("x", 1000)} {
			l = append(l, func(v *api.Value) {
				if letter == 't' {
					v.Text = s
				} else {
					v.More = s
				}
			})
		}
	case 's':
		for _, n := range []int{math.MinInt, -256, -1, 1, 2, 128, 255, 256, 1 << 32, math.MaxInt} {
			l = append(l, func(v *api.Value) { v.Sub = n })
		}
	case 'y':
		for _, b := range [][]byte{{0}, {1, 2}, twelve(), make([]byte, 12), many(13), many(1000)} {
			l = append(l, func(v *api.Value) { v.Bytes = b })
		}
	case 'k':
		for _, kids := range [][]api.Field{{{}}, {field("a", null())}, {field("0", doc()), field("1", noKind())}, {field("\xff", noBool())}, make([]api.Field, 100)} {
			l = append(l, func(v *api.Value) { v.Kids = kids })
		}
	}
	return l
}

func isZero(v api.Value, letter rune) bool {
	switch letter {
	case 'b':
		return v.Bits == 0
	case 'h':
		return v.High == 0
	case 'l':
		return v.Low == 0
	case 't':
		return v.Text == ""
	case 'm':
		return v.More == ""
	case 's':
		return v.Sub == 0
	case 'y':
		return len(v.Bytes) == 0
	}
	return len(v.Kids) == 0
}

// judged says by the chapter's table what is wrong with one value that stands under the Name, what is within it left aside.
func judged(v api.Value, name string) api.Errno {
	s, ok := shapeOf(v.Kind)
	if !ok {
		return api.ErrKind
	}
	for _, letter := range letters {
		if !strings.ContainsRune(s.has, letter) && !isZero(v, letter) {
			return api.ErrArg
		}
	}
	if s.name == "int32" && v.Bits>>32 != 0 || s.name == "bool" && v.Bits>>1 != 0 || v.Sub != v.Sub&255 || (s.name == "objectid" || s.name == "pointer") && len(v.Bytes) != 12 {
		return api.ErrArg
	}
	for _, text := range []string{v.Text, v.More, name} {
		if !utf8.ValidString(text) {
			return api.ErrText
		}
	}
	if strings.Contains(name, "\x00") || s.name == "regex" && strings.Contains(v.Text+v.More, "\x00") {
		return api.ErrText
	}
	return api.OK
}

// found is a value of a tree, with its path and the Name that it stands under; open says that all that it is within have Kids by their Kind.
type found struct {
	v    api.Value
	name string
	path []int
	open bool
}

// row are a value and all within it, each ahead of its Kids, and those in order, found without recursion.
func row(v api.Value) []found {
	var l []found
	for todo := []found{{v: v, open: true}}; len(todo) > 0; {
		f := todo[len(todo)-1]
		todo = todo[:len(todo)-1]
		l = append(l, f)
		s, _ := shapeOf(f.v.Kind)
		for i := len(f.v.Kids) - 1; i >= 0; i-- {
			todo = append(todo, found{f.v.Kids[i].Value, f.v.Kids[i].Name, append(slices.Clone(f.path), i), f.open && strings.Contains(s.has, "k")})
		}
	}
	return l
}

// copied is a tree with no list of the old one.
func copied(v api.Value) api.Value {
	v.Bytes = slices.Clone(v.Bytes)
	v.Kids = slices.Clone(v.Kids)
	for i := range v.Kids {
		v.Kids[i].Value = copied(v.Kids[i].Value)
	}
	return v
}

// roomy is a copy whose lists have spare room that is filled.
func roomy(v api.Value) api.Value {
	v.Bytes = append(slices.Clone(v.Bytes), "zzzzzzzzzzzz"...)[:len(v.Bytes)]
	kids := append(slices.Clone(v.Kids), field("\xff", noKind()), field("spare", doc()))[:len(v.Kids)]
	for i := range kids {
		kids[i].Value = roomy(kids[i].Value)
	}
	v.Kids = kids
	return v
}

// picture tells all that a tree has, what is in its spare room too.
func picture(v api.Value) string {
	var b strings.Builder
	fmt.Fprintf(&b, "%d %d %d %d %q %q %d %d %x (", v.Kind, v.Bits, v.High, v.Low, v.Text, v.More, v.Sub, len(v.Bytes), v.Bytes[:cap(v.Bytes)])
	for i, kid := range v.Kids[:cap(v.Kids)] {
		if i == len(v.Kids) {
			b.WriteString("| ")
		}
		fmt.Fprintf(&b, "%q: %s ", kid.Name, picture(kid.Value))
	}
	b.WriteString(")")
	return b.String()
}

// cut keeps what a test tells short.
func cut(v api.Value) string {
	s := fmt.Sprintf("%+q", fmt.Sprint(v))
	if len(s) > 200 {
		return s[:200] + ".."
	}
	return s
}

// checks also holds R2: with OK there is no path.
func checks(t *testing.T, v api.Value, e api.Errno, path ...int) {
	t.Helper()
	if got, gotE := tree.Check(v); gotE != e || !slices.Equal(got, path) {
		t.Errorf("Check(%s): %v, %d, not %v, %d", cut(v), got, gotE, path, e)
	}
}

// checksEverywhere holds a value that is wrong, or right, at the outermost place and at others.
func checksEverywhere(t *testing.T, v api.Value, e api.Errno) {
	t.Helper()
	at := func(path ...int) []int {
		if e == api.OK {
			return nil
		}
		return path
	}
	checks(t, v, e)
	checks(t, doc(field("a", v)), e, at(0)...)
	checks(t, array(field("0", null()), field("1", v), field("2", null())), e, at(1)...)
	checks(t, scoped("\x00", field("", doc()), field("", array(field("x", doc()), field("x", doc()), field("x", v)))), e, at(1, 2)...)
}

// P17.1: what a value of each Kind has

func TestValuesOfEachKind(t *testing.T) {
	kinds := 0
	for _, s := range shapes {
		checksEverywhere(t, plain(s.kind), api.OK)
		kinds++
	}
	if kinds != 21 {
		t.Errorf("%d Kinds", kinds)
	}
	for _, v := range goods() {
		checksEverywhere(t, v, api.OK)
	}
}

func TestFieldsThatAKindHasNot(t *testing.T) {
	for _, s := range shapes {
		for _, letter := range letters {
			if strings.ContainsRune(s.has, letter) {
				continue
			}
			for _, fill := range fills(letter) {
				v := plain(s.kind)
				fill(&v)
				checksEverywhere(t, v, api.ErrArg)
			}
		}
	}
}

// Two fields that a Kind has not, or one that it has beside one that it has not.
func TestTwoFields(t *testing.T) {
	for _, s := range shapes {
		for _, one := range letters {
			for _, other := range letters {
				if strings.ContainsRune(s.has, one) && strings.ContainsRune(s.has, other) {
					continue
				}
				v := plain(s.kind)
				fills(one)[0](&v)
				fills(other)[0](&v)
				checksEverywhere(t, v, api.ErrArg)
			}
		}
	}
}

func TestHighAloneAndLowAlone(t *testing.T) {
	for _, s := range shapes {
		for _, n := range []uint64{1, 1 << 32, 1 << 63, all} {
			high, low, both := plain(s.kind), plain(s.kind), plain(s.kind)
			high.High, low.Low, both.High, both.Low = n, n, n, n
			e := api.ErrArg
			if s.name == "decimal" {
				e = api.OK
			}
			checksEverywhere(t, high, e)
			checksEverywhere(t, low, e)
			checksEverywhere(t, both, e)
		}
	}
}

// Lists that are empty, but not nil, are none; of spare room nothing is looked at.
func TestEmptyLists(t *testing.T) {
	for _, s := range shapes {
		for _, lists := range []api.Value{{Bytes: []byte{}, Kids: []api.Field{}}, {Bytes: []byte("zz")[:0], Kids: []api.Field{field("\xff", noKind())}[:0]}, {Bytes: make([]byte, 0, 12), Kids: make([]api.Field, 0, 3)}} {
			v := plain(s.kind)
			v.Kids = lists.Kids
			checksEverywhere(t, v, api.OK)
			v.Bytes = lists.Bytes
			e := api.OK
			if s.name == "objectid" || s.name == "pointer" {
				e = api.ErrArg
			}
			checksEverywhere(t, v, e)
		}
	}
}

func TestBitsPastABound(t *testing.T) {
	for _, bits := range []uint64{1 << 32, 1<<32 + 1, 1<<33 - 1, 1 << 33, 1 << 48, 1<<63 - 1, 1 << 63, 1<<63 + 1, all - 1<<31, all - 1<<31 + 1, all - 1, all} {
		checksEverywhere(t, api.Value{Kind: api.Int32, Bits: bits}, api.ErrArg)
	}
	for k := range 64 {
		e := api.OK
		if k > 31 {
			e = api.ErrArg
		}
		checks(t, api.Value{Kind: api.Int32, Bits: 1 << k}, e)
	}
	for bits := uint64(2); bits < 600; bits++ {
		checks(t, api.Value{Kind: api.Bool, Bits: bits}, api.ErrArg)
	}
	for _, bits := range []uint64{2, 3, 254, 255, 256, 257, 1 << 16, 1<<31 + 1, 1 << 32, 1<<32 + 1, 1 << 63, 1<<63 + 1, all - 1, all} {
		checksEverywhere(t, api.Value{Kind: api.Bool, Bits: bits}, api.ErrArg)
	}
}

func TestSubPastABound(t *testing.T) {
	for _, sub := range []int{math.MinInt, math.MinInt + 1, math.MinInt + 5, math.MinInt32, -1 << 32, -1<<32 + 5, -512, -257, -256, -255, -129, -128, -127, -2, -1, 256, 257, 258, 383, 511, 512, 1 << 16, math.MaxInt32, 1 << 32, 1<<32 + 5, 1 << 62, math.MaxInt - 1, math.MaxInt} {
		checksEverywhere(t, api.Value{Kind: api.Binary, Sub: sub}, api.ErrArg)
		checksEverywhere(t, api.Value{Kind: api.Binary, Sub: sub, Bytes: twelve()}, api.ErrArg)
	}
}

func TestHowManyBytes(t *testing.T) {
	for _, n := range []int{0, 1, 2, 3, 4, 5, 6, 7, 8, 9, 10, 11, 12, 13, 14, 15, 16, 23, 24, 25, 256, 268, 1000, 65536 + 12} {
		e := api.ErrArg
		if n == 12 {
			e = api.OK
		}
		for _, b := range [][]byte{many(n), make([]byte, n), make([]byte, n, 2*n+12)} {
			checksEverywhere(t, api.Value{Kind: api.ObjectID, Bytes: b}, e)
			checksEverywhere(t, api.Value{Kind: api.Pointer, Bytes: b}, e)
			checksEverywhere(t, api.Value{Kind: api.Pointer, Text: "a", Bytes: b}, e)
			checksEverywhere(t, api.Value{Kind: api.Binary, Bytes: b}, api.OK)
		}
	}
	checksEverywhere(t, api.Value{Kind: api.ObjectID}, api.ErrArg)
	checksEverywhere(t, api.Value{Kind: api.Pointer, Text: "a"}, api.ErrArg)
}

func TestTextsThatAreNotWhole(t *testing.T) {
	for _, s := range broken {
		for _, kind := range []int{2, 13, 14, 15} {
			checksEverywhere(t, api.Value{Kind: kind, Text: s}, api.ErrText)
		}
		checksEverywhere(t, api.Value{Kind: api.Pointer, Text: s, Bytes: twelve()}, api.ErrText)
		checksEverywhere(t, api.Value{Kind: api.Scoped, Text: s, Kids: []api.Field{field("a", null())}}, api.ErrText)
		for _, other := range []string{"", "a", "\x00", "\xff"} {
			checksEverywhere(t, api.Value{Kind: api.Regex, Text: s, More: other}, api.ErrText)
			checksEverywhere(t, api.Value{Kind: api.Regex, Text: other, More: s}, api.ErrText)
		}
	}
}

func TestRegexWithAByteNought(t *testing.T) {
	for _, s := range noughts {
		for _, other := range []string{"", "a", "\u20ac", "\x00"} {
			checksEverywhere(t, api.Value{Kind: api.Regex, Text: s, More: other}, api.ErrText)
			checksEverywhere(t, api.Value{Kind: api.Regex, Text: other, More: s}, api.ErrText)
		}
	}
}

func TestNames(t *testing.T) {
	for _, s := range shapes {
		v := plain(s.kind)
		for _, name := range wholes {
			checks(t, doc(field(name, v)), api.OK)
			checks(t, array(field(name, v), field(name, v), field(name, v)), api.OK)
			checks(t, scoped(name, field("a", doc(field(name, v)))), api.OK)
		}
		for _, name := range slices.Concat(noughts, broken) {
			checks(t, doc(field(name, v)), api.ErrText, 0)
			checks(t, array(field("", null()), field(name, v), field(name, v)), api.ErrText, 1)
			checks(t, scoped("", field("a", doc(field("b", v), field("c", v), field(name, v)))), api.ErrText, 0, 2)
		}
	}
}

// P17.2: Check, the first of several

func TestKindsThatAreNone(t *testing.T) {
	for _, kind := range noKinds {
		checksEverywhere(t, api.Value{Kind: kind}, api.ErrKind)
		checks(t, doc(field("\xff", api.Value{Kind: kind})), api.ErrKind, 0)
		for _, letter := range letters {
			for _, fill := range fills(letter) {
				v := api.Value{Kind: kind}
				fill(&v)
				checksEverywhere(t, v, api.ErrKind)
				checks(t, doc(field("a\x00", v)), api.ErrKind, 0)
			}
		}
	}
	for kind := -1000; kind <= 1000; kind++ {
		e := api.ErrKind
		if _, ok := shapeOf(kind); ok {
			e = api.OK
		}
		checks(t, plain(kind), e)
	}
}

// Values with two things wrong, of which one is a field that should be zero, or is past a bound.
func TestErrArgAheadOfErrText(t *testing.T) {
	for _, s := range broken[:4] {
		for _, v := range []api.Value{
			{Kind: api.String, Text: s, Bits: 1}, {Kind: api.String, Text: s, Kids: []api.Field{{}}}, {Kind: api.Code, Text: s, High: 1}, {Kind: api.Symbol, Text: s, Low: 1}, {Kind: api.String, Text: s, More: s}, {Kind: api.Null, Text: s}, {Kind: api.Null, More: s}, {Kind: api.Document, Text: s}, {Kind: api.Scoped, Text: s, More: "a"},
			{Kind: api.Regex, Text: s, Sub: 1}, {Kind: api.Regex, More: s, Bytes: []byte{0}}, {Kind: api.Pointer, Text: s}, {Kind: api.Pointer, Text: s, Bytes: many(11)}, {Kind: api.Pointer, Text: s, Bytes: many(13)}, {Kind: api.Binary, Text: s, Sub: 256}, {Kind: api.Int32, Text: s, Bits: 1 << 32}, {Kind: api.Bool, More: s, Bits: 2},
		} {
			checksEverywhere(t, v, api.ErrArg)
			checks(t, doc(field(s, v)), api.ErrArg, 0)
			checks(t, array(field("", null()), field("\x00", v)), api.ErrArg, 1)
		}
	}
}

func TestTextAndNameWrong(t *testing.T) {
	for _, name := range []string{"\xff", "a\x00", "\x00", "a"} {
		for _, v := range []api.Value{noText(), {Kind: api.Regex, Text: "\x00"}, {Kind: api.Regex, More: "\x00"}, {Kind: api.Regex, Text: "\xff", More: "\xff"}, scoped("\xff", field("\xff", noKind()))} {
			checks(t, doc(field("", null()), field(name, v), field("\xff", v)), api.ErrText, 1)
		}
	}
}

// A Name that is wrong counts ahead of all within its value, but not ahead of the value's own Kind and fields.
func TestNameAndWhatIsUnderIt(t *testing.T) {
	for _, name := range []string{"\xff", "a\x00"} {
		for _, wrong := range []api.Value{noKind(), noBool(), noText()} {
			for _, kid := range []api.Value{doc(field("b", wrong)), array(field(name, wrong)), scoped("", field("b", doc(field("b", wrong))))} {
				checks(t, doc(field(name, kid)), api.ErrText, 0)
			}
		}
		checks(t, doc(field(name, noKind())), api.ErrKind, 0)
		checks(t, doc(field(name, noBool())), api.ErrArg, 0)
		checks(t, doc(field(name, noText())), api.ErrText, 0)
	}
}

func TestValueAndKidWrong(t *testing.T) {
	for _, wrong := range []api.Field{field("a", noKind()), field("a", noBool()), field("a", noText()), field("\xff", null())} {
		checksEverywhere(t, api.Value{Kind: 99, Kids: []api.Field{wrong}}, api.ErrKind)
		checksEverywhere(t, api.Value{Kind: api.Document, Bits: 1, Kids: []api.Field{wrong}}, api.ErrArg)
		checksEverywhere(t, api.Value{Kind: api.Array, Text: "a", Kids: []api.Field{wrong}}, api.ErrArg)
		checksEverywhere(t, scoped("\xff", wrong), api.ErrText)
		checksEverywhere(t, scoped("a\xe2\x82", field("a", doc(wrong))), api.ErrText)
	}
}

// Kids of a Kind that has none are wrong as they are, whatever is in them.
func TestKidsOfAKindThatHasNone(t *testing.T) {
	for _, s := range shapes {
		if strings.Contains(s.has, "k") {
			continue
		}
		for _, kid := range []api.Field{field("a", null()), field("a", noKind()), field("\xff", noText()), field("a", doc(field("b", noBool())))} {
			v := plain(s.kind)
			v.Kids = []api.Field{kid}
			checksEverywhere(t, v, api.ErrArg)
		}
	}
}

func TestTwoKidsWrong(t *testing.T) {
	wrongs := []struct {
		v api.Value
		e api.Errno
	}{{noKind(), api.ErrKind}, {noBool(), api.ErrArg}, {noText(), api.ErrText}}
	for _, one := range wrongs {
		for _, other := range wrongs {
			checks(t, doc(field("a", one.v), field("b", other.v)), one.e, 0)
			checks(t, array(field("a", null()), field("b", one.v), field("c", doc()), field("\xff", other.v)), one.e, 1)
			checks(t, doc(field("a", doc(field("b", one.v))), field("c", other.v)), one.e, 0, 0)
			checks(t, doc(field("a", one.v), field("c", doc(field("b", other.v)))), one.e, 0)
			checks(t, scoped("", field("a", doc(field("b", null()), field("c", array(field("d", doc()), field("e", one.v))))), field("\xff", other.v)), one.e, 0, 1, 1)
			checks(t, doc(field("a", doc(field("b", doc()))), field("c", doc(field("d", doc()), field("e", one.v))), field("f", other.v)), one.e, 1, 1)
		}
	}
}

func TestPaths(t *testing.T) {
	for _, path := range [][]int{{}, {0}, {1}, {9}, {0, 0}, {0, 1}, {1, 0}, {2, 1, 0}, {0, 1, 2}, {3, 1, 4, 1, 5, 9, 2, 6}, {255, 256}, {100000, 7}, {0, 0, 0, 0, 0, 0, 0, 0, 1}, make([]int, 100)} {
		for _, wrong := range []struct {
			v api.Value
			e api.Errno
		}{{noKind(), api.ErrKind}, {noBool(), api.ErrArg}, {noText(), api.ErrText}} {
			v := wrong.v
			for i := len(path) - 1; i >= 0; i-- {
				kids := slices.Repeat([]api.Field{field("k", doc(field("", null())))}, path[i])
				v = api.Value{Kind: []int{api.Document, api.Array, api.Scoped}[i%3], Kids: append(kids, field("p", v), field("\xff", noKind()))}
			}
			checks(t, v, wrong.e, path...)
		}
	}
}

// nested are documents, arrays and scopes in one another, with v in the innermost one.
func nested(v api.Value, depth int) api.Value {
	for i := range depth {
		v = api.Value{Kind: []int{api.Document, api.Array, api.Scoped}[i%3], Kids: []api.Field{field("d", v)}}
	}
	return v
}

func TestDeepTrees(t *testing.T) {
	for _, depth := range []int{1, 2, 3, 199, 200, 201, 1000, 1001, 1<<16 - 1} {
		checks(t, nested(doc(), depth), api.OK)
		for e, v := range map[api.Errno]api.Value{api.ErrKind: noKind(), api.ErrArg: noBool(), api.ErrText: noText()} {
			checks(t, nested(v, depth), e, make([]int, depth)...)
		}
		counts(t, nested(doc(), depth), depth+1, depth+1)
		counts(t, nested(null(), depth), depth+1, depth)
		a, b := nested(str("a"), depth), nested(str("b"), depth)
		alike(t, a, copied(a), true)
		alike(t, a, b, false)
		alike(t, a, nested(str("a"), depth-1), false)
	}
}

func TestWideTrees(t *testing.T) {
	const n = 200000
	kids := slices.Repeat([]api.Field{field("w", api.Value{Kind: api.Int64, Bits: 7})}, n)
	v := doc(field("a", array(kids...)))
	checks(t, v, api.OK)
	counts(t, v, n+2, 2)
	other := copied(v)
	alike(t, v, other, true)
	other.Kids[0].Value.Kids[n-1].Value.Bits = 8
	alike(t, v, other, false)
	for _, i := range []int{0, 1, n / 2, n - 1} {
		kids[i].Name = "\xff"
		checks(t, v, api.ErrText, 0, i)
		kids[i].Name = "w"
		kids[i].Value.Sub = 1
		checks(t, v, api.ErrArg, 0, i)
		kids[i].Value.Sub = 0
	}
}

// drawer draws trees; of a thousand fields, Kinds and Names, about as many as rough says are of any sort.
type drawer struct {
	*rand.Rand
	goods map[int][]api.Value
	rough int
}

func newDrawer(seed int64) *drawer {
	d := &drawer{rand.New(rand.NewSource(seed)), map[int][]api.Value{}, 0}
	for _, v := range goods() {
		if len(v.Bytes) <= 12 && len(v.Text) <= 12 {
			d.goods[v.Kind] = append(d.goods[v.Kind], v)
		}
	}
	return d
}

func (d *drawer) roughly() bool {
	return d.Intn(1000) < d.rough
}

func (d *drawer) tree(depth int) api.Value {
	s := shapes[d.Intn(len(shapes))]
	if d.Intn(3) > 0 && depth > 0 {
		s = shapes[14+d.Intn(3)]
	}
	v := d.goods[s.kind][d.Intn(len(d.goods[s.kind]))]
	v.Kids = nil
	if depth > 0 && (strings.Contains(s.has, "k") || d.roughly()) {
		for range d.Intn(4) {
			v.Kids = append(v.Kids, field(d.name(), d.tree(depth-1)))
		}
	}
	for _, letter := range letters {
		if d.roughly() {
			l := fills(letter)
			l[d.Intn(len(l))](&v)
		}
	}
	if d.roughly() {
		v.Kind = noKinds[d.Intn(len(noKinds))]
	}
	return v
}

// name is wrong oftener than other parts: so ErrText comes about as often as the other errors.
func (d *drawer) name() string {
	if d.Intn(200) < d.rough {
		return slices.Concat(noughts, broken)[d.Intn(len(noughts)+len(broken))]
	}
	return wholes[d.Intn(10)]
}

// All calls of the chapter, at trees of all sorts, against the row of all values of each.
func TestDrawnTrees(t *testing.T) {
	d := newDrawer(171)
	seen := [5]int{}
	for i := range 20000 {
		d.rough = []int{0, 5, 20, 100}[i%4]
		v := d.tree(6)
		l := row(v)
		wrong, depth := found{}, 0
		e := api.OK
		for _, f := range l {
			if e == api.OK {
				wrong = f
				e = judged(f.v, f.name)
			}
			if s, _ := shapeOf(f.v.Kind); f.open && strings.Contains(s.has, "k") {
				depth = max(depth, len(f.path)+1)
			}
		}
		if e == api.OK {
			wrong = found{}
			seen[0]++
		}
		if len(wrong.path) > 1 {
			seen[4]++
		}
		for i, some := range []api.Errno{api.ErrKind, api.ErrArg, api.ErrText} {
			if e == some {
				seen[i+1]++
			}
		}
		checks(t, v, e, wrong.path...)
		counts(t, v, len(l), depth)
		alike(t, v, roomy(v), true)
		inOrder := true
		for i, kid := range v.Kids {
			inOrder = inOrder && kid.Name == strconv.Itoa(i)
		}
		if tree.Regular(v.Kids) != inOrder {
			t.Errorf("Regular of the Kids of %s: not %v", cut(v), inOrder)
		}
		if t.Failed() {
			return
		}
	}
	for i, n := range seen {
		if n < 500 {
			t.Errorf("of the sort %d there were %d alone", i, n)
		}
	}
}

// P17.2: Name, Kind

func TestNameOfEachKind(t *testing.T) {
	for _, s := range shapes {
		if name := tree.Name(s.kind); name != s.name {
			t.Errorf("Name(%d): %q, not %q", s.kind, name, s.name)
		}
		if kind, ok := tree.Kind(s.name); kind != s.kind || !ok {
			t.Errorf("Kind(%q): %d, %v, not %d, true", s.name, kind, ok, s.kind)
		}
	}
}

func TestNameOfNoKind(t *testing.T) {
	for _, kind := range noKinds {
		if name := tree.Name(kind); name != "" {
			t.Errorf("Name(%d): %q", kind, name)
		}
	}
	for kind := -70000; kind <= 70000; kind++ {
		if s, _ := shapeOf(kind); tree.Name(kind) != s.name {
			t.Errorf("Name(%d): %q, not %q", kind, tree.Name(kind), s.name)
		}
	}
}

// kinds also holds R2: with false there is no number.
func kinds(t *testing.T, name string) {
	t.Helper()
	want, has := 0, false
	for _, s := range shapes {
		if s.name == name {
			want, has = s.kind, true
		}
	}
	if kind, ok := tree.Kind(name); kind != want || ok != has {
		t.Errorf("Kind(%q): %d, %v, not %d, %v", name, kind, ok, want, has)
	}
}

func TestKindOfOtherTexts(t *testing.T) {
	for _, name := range []string{"", " ", "0", "1", "255", "Double", "DOUBLE", "int", "int16", "int321", "int 32", "integer", "min", "max", "minKey", "MinKey", "maxKey", "min key", "key", "objectId", "ObjectID", "objectID", "oid", "dbpointer", "boolean", "javascript", "codewscope", "code with scope", "regexp", "binData", "long", "none", "nul", "nil", "\x00", "null\x00", "\x00null", "double\x00", "nu\x00ll", "\xff", "null\xff", "doubl\u00e9", "n\u0443ll", "null\u0301", strings.Repeat("double", 2), strings.Repeat("x", 1<<20), strings.Repeat("\xff", 1000)} {
		kinds(t, name)
		if _, ok := tree.Kind(name); ok {
			t.Errorf("Kind(%q) is one", name)
		}
	}
}

// Names cut short, with more behind or ahead, with every byte at every place, and two in a row.
func TestKindOfNamesThatAreNotJust(t *testing.T) {
	for _, s := range shapes {
		for i := 0; i <= len(s.name); i++ {
			kinds(t, s.name[:i])
			kinds(t, s.name[i:])
			kinds(t, s.name[:i]+strings.ToUpper(s.name[i:]))
			for c := range 256 {
				kinds(t, s.name[:i]+string([]byte{byte(c)})+s.name[i:])
				if i < len(s.name) {
					kinds(t, s.name[:i]+string([]byte{byte(c)})+s.name[i+1:])
				}
			}
		}
		for _, other := range shapes {
			kinds(t, s.name+other.name)
			kinds(t, s.name+" "+other.name)
		}
	}
}

// P17.3: Same

// alike holds Same in both orders.
func alike(t *testing.T, a, b api.Value, want bool) {
	t.Helper()
	if tree.Same(a, b) != want || tree.Same(b, a) != want {
		t.Errorf("Same(%s, %s): %v, %v, not %v", cut(a), cut(b), tree.Same(a, b), tree.Same(b, a), want)
	}
}

// rich is a tree with values of each Kind, at several depths, some of which have fields that they should not have.
func rich() api.Value {
	odd := api.Value{Kind: 77, Bits: 1, High: 2, Low: 3, Text: "t", More: "m", Sub: 4, Bytes: []byte{5, 6}, Kids: []api.Field{field("x", doc()), field("\xff", noBool())}}
	return doc(
		field("double", api.Value{Kind: api.Double, Bits: 0x7ff8000000000001}), field("decimal", api.Value{Kind: api.Decimal, High: 1, Low: 2}),
		field("a", array(field("0", str("x")), field("1", api.Value{Kind: api.Regex, Text: "p", More: "i"}), field("2", scoped("f", field("b", api.Value{Kind: api.Binary, Sub: 2, Bytes: []byte{1, 2, 3}}))))),
		field("a", doc(field("oid", plain(api.ObjectID)), field("", doc(field("p", plain(api.Pointer)), field("p", null()))))), field("odd", odd), field("", doc()),
	)
}

// at is where the value with this path is in v.
func at(v *api.Value, path []int) *api.Value {
	for _, i := range path {
		v = &v.Kids[i].Value
	}
	return v
}

func TestSameOfCopies(t *testing.T) {
	for _, v := range append(goods(), rich(), api.Value{}, noKind(), noText(), nested(rich(), 10)) {
		alike(t, v, v, true)
		alike(t, v, copied(v), true)
		alike(t, v, roomy(v), true)
	}
}

// changes are ways to make one field of a value another one.
func changes() []func(v *api.Value) {
	return []func(v *api.Value){
		func(v *api.Value) { v.Kind++ }, func(v *api.Value) { v.Kind = -v.Kind - 1 }, func(v *api.Value) { v.Kind += 256 }, func(v *api.Value) { v.Kind += 1 << 32 },
		func(v *api.Value) { v.Bits ^= 1 }, func(v *api.Value) { v.Bits ^= 1 << 32 }, func(v *api.Value) { v.Bits ^= 1 << 63 },
		func(v *api.Value) { v.High ^= 1 }, func(v *api.Value) { v.High ^= 1 << 63 }, func(v *api.Value) { v.Low ^= 1 }, func(v *api.Value) { v.Low ^= 1 << 63 }, func(v *api.Value) { v.High, v.Low = v.Low+1, v.High },
		func(v *api.Value) { v.Text += "x" }, func(v *api.Value) { v.Text = "\x00" + v.Text }, func(v *api.Value) { v.Text += "\xff" }, func(v *api.Value) { v.More += "x" }, func(v *api.Value) { v.More = "\x00" + v.More }, func(v *api.Value) { v.Text, v.More = v.More+"y", v.Text },
		func(v *api.Value) { v.Sub++ }, func(v *api.Value) { v.Sub = -v.Sub - 1 }, func(v *api.Value) { v.Sub += 256 }, func(v *api.Value) { v.Sub += 1 << 32 },
		func(v *api.Value) { v.Bytes = append(v.Bytes, 0) }, func(v *api.Value) { v.Bytes = append([]byte{0}, v.Bytes...) },
		func(v *api.Value) { v.Kids = append(v.Kids, field("", null())) }, func(v *api.Value) { v.Kids = append([]api.Field{{}}, v.Kids...) }, func(v *api.Value) { v.Kids = append(v.Kids, field("", doc()), field("", doc())) },
	}
}

// Trees that part in one field of one value alone, each in turn, at each depth.
func TestSameOfOneField(t *testing.T) {
	for _, v := range []api.Value{rich(), nested(rich(), 5), null(), {}, doc()} {
		for _, f := range row(v) {
			for _, change := range changes() {
				other := copied(v)
				change(at(&other, f.path))
				alike(t, v, other, false)
			}
			if len(f.v.Bytes) > 0 {
				for i := range f.v.Bytes {
					other := copied(v)
					at(&other, f.path).Bytes[i] ^= 0x80
					alike(t, v, other, false)
				}
				other := copied(v)
				last := at(&other, f.path)
				last.Bytes = last.Bytes[:len(last.Bytes)-1]
				alike(t, v, other, false)
			}
		}
	}
}

// Trees that part in one Name, or in the number or the order of Kids, at one place alone.
func TestSameOfKids(t *testing.T) {
	v := nested(rich(), 3)
	for _, f := range row(v) {
		n := len(f.v.Kids)
		for i := range n {
			for _, name := range []string{"other", f.v.Kids[i].Name + "\x00", f.v.Kids[i].Name + " ", "\xfe"} {
				other := copied(v)
				at(&other, f.path).Kids[i].Name = name
				alike(t, v, other, false)
			}
			other := copied(v)
			place := at(&other, f.path)
			place.Kids = slices.Delete(place.Kids, i, i+1)
			alike(t, v, other, false)
			other = copied(v)
			place = at(&other, f.path)
			place.Kids = slices.Insert(place.Kids, i, place.Kids[i])
			alike(t, v, other, false)
			for j := range i {
				other := copied(v)
				kids := at(&other, f.path).Kids
				kids[i], kids[j] = kids[j], kids[i]
				alike(t, v, other, false)
			}
		}
	}
}

func TestSameOfNilAndEmptyLists(t *testing.T) {
	for _, v := range append(goods(), rich()) {
		other := copied(v)
		for _, f := range row(v) {
			place := at(&other, f.path)
			if len(place.Bytes) == 0 {
				place.Bytes = []byte{}
			}
			if len(place.Kids) == 0 {
				place.Kids = []api.Field{}
			}
			alike(t, v, other, true)
		}
		for _, f := range row(v) {
			place := at(&other, f.path)
			if len(place.Bytes) == 0 {
				place.Bytes = []byte("zz")[:0]
			}
			if len(place.Kids) == 0 {
				place.Kids = []api.Field{field("a", null())}[:0]
			}
		}
		alike(t, v, other, true)
	}
	alike(t, api.Value{}, api.Value{Bytes: []byte{}}, true)
	alike(t, api.Value{}, api.Value{Kids: []api.Field{}}, true)
	alike(t, api.Value{Bytes: []byte{}}, api.Value{Kids: []api.Field{}}, true)
	alike(t, api.Value{}, api.Value{Bytes: []byte{0}}, false)
	alike(t, api.Value{}, api.Value{Kids: []api.Field{{}}}, false)
}

// Values of unlike Kinds that have the same fields otherwise, and of one Kind with unlike fields.
func TestSameOfAllPairs(t *testing.T) {
	var l []api.Value
	for _, s := range shapes {
		l = append(l, api.Value{Kind: s.kind}, api.Value{Kind: s.kind, Bits: 1}, api.Value{Kind: s.kind, High: 1}, api.Value{Kind: s.kind, Low: 1}, api.Value{Kind: s.kind, Text: "1"}, api.Value{Kind: s.kind, More: "1"}, api.Value{Kind: s.kind, Sub: 1}, api.Value{Kind: s.kind, Bytes: []byte{1}}, api.Value{Kind: s.kind, Kids: []api.Field{field("1", null())}}, api.Value{Kind: s.kind, Kids: []api.Field{field("", null())}})
	}
	for i, a := range l {
		for k, b := range l {
			alike(t, a, b, i == k)
		}
	}
}

func TestSameOfDrawnTrees(t *testing.T) {
	d := newDrawer(172)
	d.rough = 20
	differ := 0
	for range 5000 {
		v := d.tree(5)
		l := row(v)
		other := copied(v)
		place := at(&other, l[d.Intn(len(l))].path)
		all := changes()
		all[d.Intn(len(all))](place)
		alike(t, v, other, false)
		if len(l) > 5 {
			differ++
		}
	}
	if differ < 500 {
		t.Errorf("%d trees alone are of some size", differ)
	}
}

// P17.3: Count, Depth

func counts(t *testing.T, v api.Value, count, depth int) {
	t.Helper()
	if got := tree.Count(v); got != count {
		t.Errorf("Count(%s): %d, not %d", cut(v), got, count)
	}
	if got := tree.Depth(v); got != depth {
		t.Errorf("Depth(%s): %d, not %d", cut(v), got, depth)
	}
}

func TestCountAndDepth(t *testing.T) {
	for _, s := range shapes {
		depth := 0
		if s.name == "document" || s.name == "array" || s.name == "scoped" {
			depth = 1
		}
		v := plain(s.kind)
		counts(t, v, 1, depth)
		v.Kids = []api.Field{}
		counts(t, v, 1, depth)
		v.Kids = []api.Field{field("spare", doc())}[:0]
		counts(t, v, 1, depth)
		counts(t, doc(field("a", plain(s.kind))), 2, 1+depth)
		counts(t, array(field("0", plain(s.kind)), field("1", plain(s.kind))), 3, 1+depth)
		counts(t, scoped("f", field("a", plain(s.kind)), field("b", doc()), field("c", null())), 4, 2)
		v.Kids = []api.Field{field("a", doc(field("b", doc()))), field("c", null())}
		counts(t, v, 4, 3*depth)
		counts(t, doc(field("v", v)), 5, 1+3*depth)
	}
	for _, c := range []struct {
		v            api.Value
		count, depth int
	}{
		{api.Value{}, 1, 0},
		{doc(), 1, 1},
		{doc(field("a", doc())), 2, 2},
		{doc(field("a", doc()), field("b", doc(field("c", doc()))), field("d", doc())), 5, 3},
		{doc(field("b", doc(field("c", doc()))), field("a", null()), field("a", null())), 5, 3},
		{doc(field("a", null()), field("b", array(field("0", scoped(""))))), 4, 3},
		{array(field("a", array()), field("a", array(field("a", array(field("a", array(field("a", null())))))))), 6, 4},
		{doc(field("a", array(field("0", null()), field("1", null()))), field("b", array(field("0", null())))), 6, 2},
		{doc(field("a", api.Value{Kind: api.Null, Kids: []api.Field{field("a", doc(field("b", doc())))}}), field("b", doc())), 5, 2},
	} {
		counts(t, c.v, c.count, c.depth)
	}
}

func TestCountAndDepthOfKindsThatAreNone(t *testing.T) {
	for _, kind := range noKinds {
		counts(t, api.Value{Kind: kind}, 1, 0)
		v := api.Value{Kind: kind, Kids: []api.Field{field("a", doc(field("b", null()))), field("c", doc())}}
		counts(t, v, 4, 0)
		counts(t, doc(field("v", v)), 5, 1)
		counts(t, scoped("", field("v", v), field("w", doc(field("v", v)))), 10, 2)
	}
}

// P17.3: Regular

// named are Kids with these Names, of values of any sort.
func named(names ...string) []api.Field {
	var l []api.Field
	for i, name := range names {
		l = append(l, field(name, []api.Value{null(), doc(), noKind(), {}}[i%4]))
	}
	return l
}

// numbers are the Names of the first n Kids of an Array, as they should be.
func numbers(n int) []string {
	var l []string
	for i := range n {
		l = append(l, strconv.FormatUint(uint64(i), 10))
	}
	return l
}

func regular(t *testing.T, names []string, want bool) {
	t.Helper()
	if tree.Regular(named(names...)) != want {
		t.Errorf("Regular(%.200q): not %v", names, want)
	}
}

func TestRegular(t *testing.T) {
	if !tree.Regular(nil) || !tree.Regular([]api.Field{}) || !tree.Regular(named("x", "y")[:0]) {
		t.Errorf("no Names are not regular")
	}
	if !tree.Regular(named("0", "1", "x")[:2]) {
		t.Errorf("what is in the spare room counts")
	}
	for n := range 250 {
		regular(t, numbers(n), true)
	}
	for _, n := range []int{999, 1000, 1001, 10000, 10001, 100001} {
		regular(t, numbers(n), true)
		regular(t, append(numbers(n), strconv.Itoa(n+1)), false)
	}
	regular(t, []string{"0", "1", "2", "3", "4", "5", "6", "7", "8", "9"}, true)
	regular(t, []string{"0", "1", "2", "3", "4", "5", "6", "7", "8", "9", "10"}, true)
	regular(t, []string{"0", "1", "2", "3", "4", "5", "6", "7", "8", "9", ":"}, false)
}

// Each Name in turn left out, doubled, moved, or written otherwise.
func TestNotRegular(t *testing.T) {
	for _, n := range []int{1, 2, 3, 9, 10, 11, 12, 99, 100, 101, 102, 123} {
		for i := range n {
			l := numbers(n)
			s := l[i]
			regular(t, slices.Delete(slices.Clone(l), i, i+1), i == n-1)
			regular(t, slices.Insert(slices.Clone(l), i, s), false)
			for _, name := range []string{"", "0" + s, "00" + s, s + "0", "+" + s, "-" + s, " " + s, s + " ", s + ".", s + ".0", s + "\x00", "\x00" + s, s + "\xff", s + "e0", "0x" + s, "x", "a", strconv.Itoa(i + 1), strconv.Itoa(i - 1), strconv.Itoa(i + 10), strconv.Itoa(i + 256), strconv.Itoa(i + 1<<32), s + "\n", strings.Repeat("\u0660", i+1), "\uff10"} {
				other := slices.Clone(l)
				other[i] = name
				regular(t, other, false)
			}
			for k := range i {
				other := slices.Clone(l)
				other[i], other[k] = other[k], other[i]
				regular(t, other, false)
			}
		}
		back := numbers(n)
		slices.Reverse(back)
		regular(t, back, n == 1)
		regular(t, numbers(n + 1)[1:], false)
		sorted := numbers(n)
		slices.Sort(sorted)
		regular(t, sorted, n <= 10)
	}
	regular(t, []string{"1"}, false)
	regular(t, []string{"0", "2"}, false)
	regular(t, []string{"", "1"}, false)
	regular(t, []string{"1", "2", "3"}, false)
	regular(t, []string{"0", "0"}, false)
	regular(t, []string{"0", "1", "2", "3", "4", "5", "6", "7", "8", "9", "A"}, false)
}

// R4

// What is handed in is left as it is, its spare room too.
func TestTreesAreLeftAsTheyAre(t *testing.T) {
	for _, v := range append(goods(), rich(), noText(), doc(field("a", doc(field("b", null()), field("\xff", null())))), nested(noBool(), 9)) {
		v := roomy(v)
		other := roomy(v)
		before, otherBefore := picture(v), picture(other)
		tree.Check(v)
		tree.Same(v, other)
		tree.Same(other, v)
		tree.Count(v)
		tree.Depth(v)
		tree.Regular(v.Kids)
		if picture(v) != before || picture(other) != otherBefore {
			t.Errorf("%s was changed", cut(v))
		}
	}
}

// A path that is written over, its spare room too, is seen in no other answer and in no tree.
func TestCheckAnswersNewMemory(t *testing.T) {
	for _, path := range [][]int{{0}, {2}, {1, 0}, {0, 1, 2}, {3, 1, 4, 1, 5}, make([]int, 100)} {
		v := noBool()
		for i := len(path) - 1; i >= 0; i-- {
			v = array(append(slices.Repeat([]api.Field{field("k", doc())}, path[i]), field("p", v))...)
		}
		before := picture(v)
		first, _ := tree.Check(v)
		second, _ := tree.Check(v)
		spare := first[:cap(first)]
		for i := range spare {
			spare[i] = -7
		}
		if !slices.Equal(second, path) {
			t.Errorf("the second path is %v, not %v", second, path)
		}
		checks(t, v, api.ErrArg, path...)
		if picture(v) != before {
			t.Errorf("the tree shares memory with the path %v", path)
		}
	}
}

// A path stays as it is, whatever becomes of the tree behind it.
func TestPathIsKeptByNoTree(t *testing.T) {
	v := doc(field("a", doc()), field("b", array(field("0", null()), field("1", noText()))))
	path, _ := tree.Check(v)
	v.Kids[1].Value.Kids[1].Value = null()
	v.Kids[0] = field("\xff", noKind())
	checks(t, v, api.ErrKind, 0)
	if !slices.Equal(path, []int{1, 1}) {
		t.Errorf("the path became %v", path)
	}
}

// R5: what a refused call began is in no later answer.
func TestBehindARefusal(t *testing.T) {
	right := rich()
	right.Kids = slices.Delete(right.Kids, 4, 5)
	for _, wrong := range []api.Value{{}, noKind(), noBool(), noText(), doc(field("\xff", null())), nested(noBool(), 20), rich()} {
		if _, e := tree.Check(wrong); e == api.OK {
			t.Errorf("Check(%s) is OK", cut(wrong))
		}
		checks(t, right, api.OK)
		kinds(t, "none")
		kinds(t, "minkey")
		alike(t, wrong, right, false)
		alike(t, right, copied(right), true)
		counts(t, doc(field("a", doc())), 2, 2)
		regular(t, []string{"0", "x"}, false)
		regular(t, []string{"0", "1"}, true)
	}
}
