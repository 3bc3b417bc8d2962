package size_test

import (
	"fmt"
	"math"
	"math/rand"
	"slices"
	"strconv"
	"strings"
	"testing"

	"propylon/api"
	"propylon/size"
)

// rule says how many bytes a value of a Kind has whatever its fields are, and which of them count: t Text, m More, y Bytes, s four more at Sub 2, k Kids.
type rule struct {
	kind, base int
	has        string
}

// rules are the chapter's, with the Kinds' numbers written out anew.
var rules = []rule{
	{1, 8, ""}, {9, 8, ""}, {17, 8, ""}, {18, 8, ""}, {16, 4, ""}, {8, 1, ""}, {19, 16, ""},
	{2, 5, "t"}, {13, 5, "t"}, {14, 5, "t"}, {11, 2, "tm"}, {5, 5, "ys"}, {7, 12, ""}, {12, 17, "t"},
	{3, 5, "k"}, {4, 5, "k"}, {15, 14, "tk"}, {6, 0, ""}, {10, 0, ""}, {255, 0, ""}, {127, 0, ""},
}

// noKinds are numbers of no Kind: beside those that are one, and such as have a Kind's number in their lowest bits.
var noKinds = []int{
	math.MinInt, math.MinInt + 1, math.MinInt + 3, math.MinInt32, -1 << 32, -1<<32 + 3, -256, -255, -254, -253, -129, -128, -127, -19, -3, -2, -1, 0,
	20, 21, 22, 32, 64, 77, 99, 125, 126, 128, 129, 200, 253, 254, 256, 257, 258, 259, 275, 383, 511, 512, 1 << 16, 1<<16 + 3, math.MaxInt32, 1 << 32, 1<<32 + 1, 1<<32 + 3, 1<<32 + 127, 1 << 62, math.MaxInt - 1, math.MaxInt,
}

// texts are empty, of one byte, of many, of characters of each length, not whole, and with a byte 0.
var texts = []string{
	"", "a", "ab", "0", "$a", "\x7f", "\u0080", "\u20ac", "\U0001f600", "a\u20acb\U0001f600", "\x00", "a\x00b", "\xff", "\xe2\x82", "\xed\xa0\x80", "\xc0\x80", "a\xffb\x00",
	strings.Repeat("x", 255), strings.Repeat("x", 256), strings.Repeat("\u20ac", 1000), strings.Repeat("\xff", 65536),
}

// subs are numbers that Sub may be, and others; some have 2 in their lowest bits.
var subs = []int{math.MinInt, math.MinInt + 2, -1<<32 + 2, -256, -254, -3, -2, -1, 0, 1, 2, 3, 4, 5, 6, 7, 8, 127, 128, 130, 255, 256, 258, 1<<16 + 2, 1<<32 + 2, math.MaxInt - 1, math.MaxInt}

// most are the greatest limits that there are.
var most = api.Limits{Depth: 200, Size: 1 << 24, Out: 1 << 26}

func field(name string, v api.Value) api.Field { return api.Field{Name: name, Value: v} }
func doc(kids ...api.Field) api.Value          { return api.Value{Kind: api.Document, Kids: kids} }
func array(kids ...api.Field) api.Value        { return api.Value{Kind: api.Array, Kids: kids} }
func scoped(text string, kids ...api.Field) api.Value {
	return api.Value{Kind: api.Scoped, Text: text, Kids: kids}
}
func null() api.Value                   { return api.Value{Kind: api.Null} }
func num(n uint64) api.Value            { return api.Value{Kind: api.Int32, Bits: n} }
func str(s string) api.Value            { return api.Value{Kind: api.String, Text: s} }
func bin(sub int, b ...byte) api.Value  { return api.Value{Kind: api.Binary, Sub: sub, Bytes: b} }
func limits(depth, sum int) api.Limits  { return api.Limits{Depth: depth, Size: sum} }
func sized(n int) api.Value             { return doc(field("", str(strings.Repeat("x", n-12)))) }
func regex(text, more string) api.Value { return api.Value{Kind: api.Regex, Text: text, More: more} }

func allKinds() []int {
	var l []int
	for _, r := range rules {
		l = append(l, r.kind)
	}
	return append(l, noKinds...)
}

// ruleOf is one of base 0 for a Kind that is none.
func ruleOf(kind int) rule {
	for _, r := range rules {
		if r.kind == kind {
			return r
		}
	}
	return rule{}
}

// own is what a value has by the rule, what is within it left aside.
func own(v api.Value) int {
	r := ruleOf(v.Kind)
	n := r.base
	for _, letter := range r.has {
		switch letter {
		case 't':
			n += len(v.Text)
		case 'm':
			n += len(v.More)
		case 'y':
			n += len(v.Bytes)
		case 's':
			if v.Sub == 2 {
				n += 4
			}
		}
	}
	return n
}

// sum is what Of should tell, reckoned without recursion.
func sum(v api.Value) int {
	n := 0
	for todo := []api.Value{v}; len(todo) > 0; {
		v := todo[len(todo)-1]
		todo = todo[:len(todo)-1]
		n += own(v)
		if !hasKids(v.Kind) {
			continue
		}
		for _, kid := range v.Kids {
			n += len(kid.Name) + 2
			todo = append(todo, kid.Value)
		}
	}
	return n
}

// depthOf is chapter 17's Depth, reckoned level by level.
func depthOf(v api.Value) int {
	n := 0
	for level := []api.Value{v}; ; n++ {
		var next []api.Value
		open := false
		for _, v := range level {
			if !hasKids(v.Kind) {
				continue
			}
			open = true
			for _, kid := range v.Kids {
				next = append(next, kid.Value)
			}
		}
		if !open {
			return n
		}
		level = next
	}
}

func hasKids(kind int) bool {
	return strings.Contains(ruleOf(kind).has, "k")
}

// nested are as many values of the Kinds in one another, with v in the innermost one.
func nested(v api.Value, depth int, kinds ...int) api.Value {
	for i := range depth {
		v = api.Value{Kind: kinds[(depth-1-i)%len(kinds)], Kids: []api.Field{field("", v)}}
	}
	return v
}

// laden has all fields but the Kind other than zero.
func laden(kind int) api.Value {
	return api.Value{Kind: kind, Bits: 1, High: 2, Low: 3, Text: "text", More: "more!!", Sub: 2, Bytes: []byte("bytes of a value"), Kids: []api.Field{field("kid", doc()), field("", str("abc"))}}
}

// rich has values of each Kind, at several depths, and such as they should not be.
func rich() api.Value {
	var kids []api.Field
	for _, kind := range allKinds() {
		kids = append(kids, field(strconv.Itoa(kind), laden(kind)), field("", api.Value{Kind: kind}))
	}
	return doc(field("a", array(kids...)), field("b", scoped("f\xff", field("c", doc(kids...)))), field("d", api.Value{Kind: 99, Kids: kids}))
}

// trees are those at which the calls are held.
func trees() []api.Value {
	l := []api.Value{{}, doc(), array(), scoped(""), null(), rich(), nested(rich(), 7, api.Document, api.Scoped, api.Array)}
	for _, kind := range allKinds() {
		l = append(l, api.Value{Kind: kind}, laden(kind), doc(field("x", laden(kind))), nested(laden(kind), 3, kind), nested(laden(kind), 3, api.Document, kind))
	}
	return l
}

// roomy is a copy whose lists have spare room that is filled.
func roomy(v api.Value) api.Value {
	v.Bytes = append(slices.Clone(v.Bytes), "zzzzzzzzzzzz"...)[:len(v.Bytes)]
	kids := append(slices.Clone(v.Kids), field("\xff", num(9)), field("spare", doc()))[:len(v.Kids)]
	for i := range kids {
		kids[i].Value = roomy(kids[i].Value)
	}
	v.Kids = kids
	return v
}

// emptied is a copy that has empty lists where v has nil ones.
func emptied(v api.Value) api.Value {
	v.Bytes = append([]byte{}, v.Bytes...)
	v.Kids = append([]api.Field{}, v.Kids...)
	for i := range v.Kids {
		v.Kids[i].Value = emptied(v.Kids[i].Value)
	}
	return v
}

// picture tells all that a tree has, what is in its spare room too.
func picture(v api.Value) string {
	var b strings.Builder
	fmt.Fprintf(&b, "%d %d %d %d %q %q %d %d %x (", v.Kind, v.Bits, v.High, v.Low, v.Text, v.More, v.Sub, len(v.Bytes), v.Bytes[:cap(v.Bytes)])
	for i, kid := range v.Kids[:cap(v.Kids)] {
		if i == len(v.Kids) {
			b.WriteString("| ")
		}
		fmt.Fprintf(&b, "%q: %s ", kid.Name, picture(kid.Value))
	}
	b.WriteString(")")
	return b.String()
}

// cut keeps what a test tells short.
func cut(v any) string {
	s := fmt.Sprintf("%+q", fmt.Sprint(v))
	if len(s) > 200 {
		return s[:200] + ".."
	}
	return s
}

// has holds Of, at nil and at empty lists, and at such as have spare room; by R5 twice.
func has(t *testing.T, v api.Value, want int) {
	t.Helper()
	for i, v := range []api.Value{v, roomy(v), emptied(v), v} {
		if n := size.Of(v); n != want {
			t.Errorf("Of(%s), copy %d: %d, not %d", cut(v), i, n, want)
		}
	}
}

// P19.1

func TestOfKindsWithTheirFields(t *testing.T) {
	for _, s := range texts {
		n := len(s)
		for _, kind := range []int{api.String, api.Code, api.Symbol} {
			has(t, api.Value{Kind: kind, Text: s}, n+5)
		}
		for _, more := range texts {
			has(t, regex(s, more), n+len(more)+2)
		}
		has(t, api.Value{Kind: api.Pointer, Text: s, Bytes: make([]byte, 12)}, n+17)
		has(t, scoped(s), n+14)
		has(t, scoped(s, field(s, null())), n+14+n+2)
		has(t, doc(field(s, null())), 5+n+2)
		has(t, array(field(s, str(s))), 5+n+2+n+5)
		has(t, bin(0, []byte(s)...), n+5)
		has(t, bin(2, []byte(s)...), n+9)
	}
	for _, bits := range []uint64{0, 1, 2, 255, 1 << 31, 1<<32 - 1, 1 << 32, 1 << 63, 1<<64 - 1} {
		for _, kind := range []int{api.Double, api.Date, api.Timestamp, api.Int64} {
			has(t, api.Value{Kind: kind, Bits: bits}, 8)
		}
		has(t, num(bits), 4)
		has(t, api.Value{Kind: api.Bool, Bits: bits}, 1)
		has(t, api.Value{Kind: api.Decimal, High: bits, Low: ^bits}, 16)
	}
	for _, kind := range []int{api.Undefined, api.Null, api.MinKey, api.MaxKey} {
		has(t, api.Value{Kind: kind}, 0)
	}
	for _, n := range []int{0, 1, 11, 12, 13, 1000} {
		has(t, api.Value{Kind: api.ObjectID, Bytes: make([]byte, n)}, 12)
		has(t, api.Value{Kind: api.Pointer, Text: "ab", Bytes: make([]byte, n)}, 19)
	}
}

// What BSON's own documents of these values are, written out.
func TestOfDocumentsAsBSONHasThem(t *testing.T) {
	for i, c := range []struct {
		v    api.Value
		bson string
	}{
		{doc(), "\x05\x00\x00\x00\x00"},
		{doc(field("hello", str("world"))), "\x16\x00\x00\x00\x02hello\x00\x06\x00\x00\x00world\x00\x00"},
		{doc(field("BSON", array(field("0", str("awesome")), field("1", api.Value{Kind: api.Double}), field("2", num(1986))))), "1\x00\x00\x00\x04BSON\x00&\x00\x00\x00\x020\x00\x08\x00\x00\x00awesome\x00\x011\x00333333\x14@\x102\x00\xc2\x07\x00\x00\x00\x00"},
		{doc(field("a", api.Value{Kind: api.Bool})), "\x09\x00\x00\x00\x08a\x00\x00\x00"},
		{doc(field("", null())), "\x07\x00\x00\x00\x0a\x00\x00"},
		{doc(field("r", regex("a.b", "im"))), "\x0f\x00\x00\x00\x0br\x00a.b\x00im\x00\x00"},
		{doc(field("x", bin(0x80, 1, 2, 3))), "\x10\x00\x00\x00\x05x\x00\x03\x00\x00\x00\x80\x01\x02\x03\x00"},
		{doc(field("x", bin(2, 1, 2, 3))), "\x14\x00\x00\x00\x05x\x00\x07\x00\x00\x00\x02\x03\x00\x00\x00\x01\x02\x03\x00"},
		{doc(field("o", api.Value{Kind: api.ObjectID, Bytes: make([]byte, 12)})), "\x14\x00\x00\x00\x07o\x00abcdefghijkl\x00"},
		{doc(field("p", api.Value{Kind: api.Pointer, Text: "db", Bytes: make([]byte, 12)})), "\x1b\x00\x00\x00\x0cp\x00\x03\x00\x00\x00db\x00abcdefghijkl\x00"},
		{doc(field("c", api.Value{Kind: api.Code, Text: "f"})), "\x0e\x00\x00\x00\x0dc\x00\x02\x00\x00\x00f\x00\x00"},
		{doc(field("s", scoped("f", field("x", num(1))))), "\x1e\x00\x00\x00\x0fs\x00\x16\x00\x00\x00\x02\x00\x00\x00f\x00\x0c\x00\x00\x00\x10x\x00\x01\x00\x00\x00\x00\x00"},
		{doc(field("d", api.Value{Kind: api.Decimal})), "\x18\x00\x00\x00\x13d\x00\x0f\x00\x00\x00\x00\x00\x00\x00\x00\x00\x00\x00\x00\x00\x3e\x30\x00"},
	} {
		if int(c.bson[0]) != len(c.bson) {
			t.Fatalf("number %d tells %d bytes, and has %d", i, c.bson[0], len(c.bson))
		}
		has(t, c.v, len(c.bson))
	}
}

// Each field in turn other than zero, then all of them: those that a Kind has not count nothing.
func TestOfFieldsThatAKindHasNot(t *testing.T) {
	for _, kind := range allKinds() {
		has(t, api.Value{Kind: kind}, ruleOf(kind).base)
		l := laden(kind)
		for _, v := range []api.Value{{Bits: l.Bits}, {High: l.High}, {Low: l.Low}, {Text: l.Text}, {More: l.More}, {Sub: l.Sub}, {Bytes: l.Bytes}, {Kids: l.Kids}, l} {
			v.Kind = kind
			has(t, v, sum(v))
			has(t, doc(field("ab", v)), 5+4+sum(v))
		}
		for _, s := range texts {
			v := api.Value{Kind: kind, Text: s, More: s + s, Sub: 2, Bytes: []byte(s + s + s)}
			has(t, v, own(v))
		}
	}
	has(t, laden(api.Null), 0)
	has(t, laden(api.Bool), 1)
	has(t, laden(api.String), 9)
	has(t, laden(api.Regex), 12)
	has(t, laden(api.Binary), 25)
	has(t, laden(api.ObjectID), 12)
	has(t, laden(api.Pointer), 21)
	has(t, laden(api.Document), 25)
	has(t, laden(api.Array), 25)
	has(t, laden(api.Scoped), 38)
}

func TestOfKindsThatAreNone(t *testing.T) {
	for _, kind := range noKinds {
		for _, v := range []api.Value{{Kind: kind}, laden(kind), {Kind: kind, Kids: rich().Kids}, {Kind: kind, Text: strings.Repeat("x", 1000)}} {
			has(t, v, 0)
			has(t, doc(field("", v)), 7)
			has(t, array(field("abc", v), field("abc", v)), 15)
			has(t, scoped("x", field("a", doc(field("b", v)))), 15+3+5+3)
		}
	}
}

// A Kid of a Kind that has none counts nothing, however much it is.
func TestOfKidsOfAKindThatHasNone(t *testing.T) {
	for _, kind := range allKinds() {
		if hasKids(kind) {
			continue
		}
		v := api.Value{Kind: kind, Kids: []api.Field{field("a", rich()), field(strings.Repeat("n", 500), doc(field("b", str("c")))), field("", null())}}
		has(t, v, ruleOf(kind).base)
		has(t, doc(field("k", v), field("l", doc())), 5+3+ruleOf(kind).base+3+5)
	}
}

func TestOfSub(t *testing.T) {
	for _, sub := range subs {
		more := 0
		if sub == 2 {
			more = 4
		}
		for _, n := range []int{0, 1, 2, 3, 12, 255, 256, 70000} {
			has(t, bin(sub, make([]byte, n)...), n+5+more)
			has(t, doc(field("b", bin(sub, make([]byte, n)...))), 8+n+5+more)
		}
		for _, kind := range allKinds() {
			if kind != api.Binary {
				has(t, api.Value{Kind: kind, Sub: sub, Bytes: make([]byte, 12)}, ruleOf(kind).base)
			}
		}
	}
}

func TestOfNames(t *testing.T) {
	for _, kind := range []int{api.Document, api.Array} {
		for _, one := range texts {
			for _, other := range texts {
				v := api.Value{Kind: kind, Kids: []api.Field{field(one, null()), field(other, num(1)), field(one, doc(field(other, null())))}}
				has(t, v, 5+(len(one)+2)+(len(other)+2+4)+(len(one)+2+5+len(other)+2))
			}
		}
	}
}

// One Kid more is its Name's bytes, two, and what its value has, wherever it stands.
func TestOfOneKidMore(t *testing.T) {
	for _, kind := range []int{api.Document, api.Array, api.Scoped} {
		for _, kid := range trees() {
			for _, name := range []string{"", "a", "\u20ac\xff", strings.Repeat("x", 300)} {
				kids := []api.Field{field("a", null()), field("", str("b")), field("c", doc(field("d", num(1))))}
				before := size.Of(api.Value{Kind: kind, Text: "t", Kids: kids})
				for i := range len(kids) + 1 {
					v := api.Value{Kind: kind, Text: "t", Kids: slices.Insert(slices.Clone(kids), i, field(name, kid))}
					if n := size.Of(v); n != before+len(name)+2+sum(kid) {
						t.Errorf("%s as Kid %d: %d behind %d", cut(kid), i, n, before)
					}
				}
			}
		}
	}
}

// A Scoped has its text and nine more than a Document of the same Kids, and a Document as much as an Array.
func TestOfScopedAgainstADocument(t *testing.T) {
	for _, v := range trees() {
		for _, s := range texts {
			n := size.Of(doc(v.Kids...))
			if n != sum(doc(v.Kids...)) {
				t.Errorf("Of a Document of %s: %d", cut(v.Kids), n)
			}
			if got := size.Of(scoped(s, v.Kids...)); got != len(s)+9+n {
				t.Errorf("Of a Scoped of %q, %s: %d, not %d", s, cut(v.Kids), got, len(s)+9+n)
			}
			if got := size.Of(array(v.Kids...)); got != n {
				t.Errorf("Of an Array of %s: %d, not %d", cut(v.Kids), got, n)
			}
		}
	}
}

func TestOfTrees(t *testing.T) {
	for _, v := range trees() {
		has(t, v, sum(v))
	}
}

func TestOfDeepTrees(t *testing.T) {
	for _, depth := range []int{1, 2, 3, 199, 200, 201, 1000, 1001, 1<<15 + 1, 1<<16 - 1} {
		has(t, nested(str("abc"), depth, api.Document), 7*depth+8)
		has(t, nested(bin(2, 1), depth, api.Array, api.Document), 7*depth+10)
		has(t, nested(null(), depth, api.Scoped), 16*depth)
		v := nested(rich(), depth, api.Document, api.Scoped, api.Array)
		if n := size.Of(v); n != sum(v) {
			t.Errorf("depth %d: %d, not %d", depth, n, sum(v))
		}
	}
	v := nested(doc(), 3, api.Document)
	v.Kids[0].Value.Kind = 99
	has(t, v, 7)
}

func TestOfWideTrees(t *testing.T) {
	const n = 200000
	v := doc(slices.Repeat([]api.Field{field("w", num(7))}, n)...)
	has(t, v, 5+7*n)
	has(t, array(field("v", v), field("", v)), 5+3+2+2*(5+7*n))
	has(t, scoped("x", slices.Repeat([]api.Field{{}}, n)...), 15+2*n)
}

// More than 32 bits tell.
func TestOfGreatTrees(t *testing.T) {
	const n = 1 << 22
	s := strings.Repeat("x", n)
	for _, count := range []int{511, 512, 513, 1023, 1024, 1025, 2048} {
		for _, kid := range []api.Field{field(s, null()), field("", api.Value{Kind: api.Regex, More: s}), field("", str(s))} {
			v := doc(slices.Repeat([]api.Field{kid}, count)...)
			if got := size.Of(v); got != sum(v) || got < n*count {
				t.Errorf("%d times: %d, not %d", count, got, sum(v))
			}
			if e := size.Fits(v, most); e != api.ErrSize {
				t.Errorf("%d times: Fits: %d", count, e)
			}
		}
	}
}

// drawer draws trees of all sorts.
type drawer struct{ *rand.Rand }

func (d drawer) tree(depth int) api.Value {
	kinds := allKinds()
	v := api.Value{Kind: kinds[d.Intn(len(kinds))]}
	if d.Intn(2) == 0 {
		v.Kind = rules[d.Intn(len(rules))].kind
	}
	if depth > 0 && d.Intn(3) > 0 {
		v.Kind = []int{api.Document, api.Array, api.Scoped}[d.Intn(3)]
	}
	v.Text, v.More, v.Bytes = d.text(), d.text(), []byte(d.text())
	v.Sub = subs[d.Intn(len(subs))]
	if d.Intn(3) == 0 {
		v.Sub = 2
	}
	if depth > 0 {
		for range d.Intn(5) {
			v.Kids = append(v.Kids, field(d.text(), d.tree(depth-1-d.Intn(depth))))
		}
	}
	return v
}

func (d drawer) text() string {
	if d.Intn(3) == 0 {
		return ""
	}
	b := make([]byte, d.Intn(12))
	d.Read(b)
	return string(b)
}

func TestDrawnTrees(t *testing.T) {
	d := drawer{rand.New(rand.NewSource(191))}
	var seen [13]int
	for range 20000 {
		v := d.tree(d.Intn(6))
		has(t, v, sum(v))
		for i := range 4 {
			if i == 1 {
				v.Kind = api.Document
			}
			l := limits(max(1, depthOf(v)+d.Intn(3)-1), max(5, sum(v)+d.Intn(3)-1))
			want := judged(v, l)
			seen[want]++
			fits(t, v, l, want)
		}
		if t.Failed() {
			return
		}
	}
	for _, e := range []api.Errno{api.OK, api.ErrKind, api.ErrDeep, api.ErrSize} {
		if seen[e] < 1000 {
			t.Errorf("of the error %d there were %d alone", e, seen[e])
		}
	}
}

// P19.2: May

// edge is a number of a limit, and whether it may be.
type edge struct {
	n   int
	may bool
}

var depths = []edge{
	{math.MinInt, false}, {math.MinInt + 1, false}, {-1<<32 + 1, false}, {-200, false}, {-1, false}, {0, false}, {1, true}, {2, true}, {100, true}, {199, true}, {200, true},
	{201, false}, {202, false}, {256, false}, {257, false}, {1000, false}, {1<<32 + 1, false}, {math.MaxInt - 1, false}, {math.MaxInt, false},
}

var sizes = []edge{
	{math.MinInt, false}, {math.MinInt + 5, false}, {-1<<32 + 5, false}, {-5, false}, {-1, false}, {0, false}, {1, false}, {3, false}, {4, false}, {5, true}, {6, true}, {1000, true}, {1<<24 - 1, true}, {1 << 24, true},
	{1<<24 + 1, false}, {1<<24 + 5, false}, {1 << 26, false}, {1<<31 - 1, false}, {1<<32 + 5, false}, {math.MaxInt - 1, false}, {math.MaxInt, false},
}

var outs = []edge{
	{math.MinInt, false}, {math.MinInt + 1, false}, {-1 << 32, false}, {-2, false}, {-1, false}, {0, true}, {1, true}, {4, true}, {5, true}, {1 << 24, true}, {1<<26 - 1, true}, {1 << 26, true},
	{1<<26 + 1, false}, {1 << 31, false}, {1 << 32, false}, {1<<32 + 1, false}, {math.MaxInt - 1, false}, {math.MaxInt, false},
}

// Each number at each edge, with each other: alone, and several at once.
func TestMay(t *testing.T) {
	for _, depth := range depths {
		for _, sum := range sizes {
			for _, out := range outs {
				l, want := api.Limits{Depth: depth.n, Size: sum.n, Out: out.n}, depth.may && sum.may && out.may
				if size.May(l) != want {
					t.Errorf("May(%v): %v", l, !want)
				}
				e := api.ErrArg
				if want {
					e = api.OK
				}
				fits(t, doc(), l, e)
			}
		}
	}
}

func TestMayByEachNumberAlone(t *testing.T) {
	for i, c := range []struct {
		l    api.Limits
		want bool
	}{
		{api.Limits{}, false}, {most, true}, {api.Limits{Depth: 1, Size: 5, Out: 0}, true},
		{api.Limits{Depth: api.MaxDepth, Size: api.MaxSize, Out: api.MaxOut}, true}, {api.Limits{Depth: 200, Size: 16777216, Out: 67108864}, true},
		{api.Limits{Depth: 0, Size: 5, Out: 0}, false}, {api.Limits{Depth: 1, Size: 4, Out: 0}, false}, {api.Limits{Depth: 1, Size: 5, Out: -1}, false},
		{api.Limits{Depth: 201, Size: 16777216, Out: 67108864}, false}, {api.Limits{Depth: 200, Size: 16777217, Out: 67108864}, false}, {api.Limits{Depth: 200, Size: 16777216, Out: 67108865}, false},
		{api.Limits{Depth: 5, Size: 1, Out: 0}, false}, {api.Limits{Depth: 200, Size: 5, Out: 0}, true}, {api.Limits{Depth: 1, Size: 1 << 24, Out: 0}, true}, {api.Limits{Depth: 1, Size: 5, Out: 1 << 26}, true},
	} {
		if size.May(c.l) != c.want {
			t.Errorf("May, number %d: %v", i, !c.want)
		}
	}
}

// P19.2: Fits

// fits holds Fits, at nil and at empty lists, and at such as have spare room.
func fits(t *testing.T, v api.Value, l api.Limits, want api.Errno) {
	t.Helper()
	for i, v := range []api.Value{v, roomy(v), emptied(v)} {
		if e := size.Fits(v, l); e != want {
			t.Errorf("Fits(%s, %v), copy %d: %d, not %d", cut(v), l, i, e, want)
		}
	}
}

// judged says by the words of the chapter what is wrong.
func judged(v api.Value, l api.Limits) api.Errno {
	switch {
	case l.Depth < 1 || l.Depth > 200 || l.Size < 5 || l.Size > 1<<24 || l.Out < 0 || l.Out > 1<<26:
		return api.ErrArg
	case v.Kind != 3:
		return api.ErrKind
	case depthOf(v) > l.Depth:
		return api.ErrDeep
	case sum(v) > l.Size:
		return api.ErrSize
	}
	return api.OK
}

func TestFits(t *testing.T) {
	fits(t, doc(), limits(1, 5), api.OK)
	two := doc(field("a", doc(field("b", num(1)))))
	fits(t, two, limits(2, 20), api.OK)
	fits(t, two, limits(2, 19), api.ErrSize)
	fits(t, two, limits(1, 20), api.ErrDeep)
	fits(t, two, limits(1, 19), api.ErrDeep)
	fits(t, two, limits(1, 4), api.ErrArg)
	fits(t, two, limits(3, 21), api.OK)
	fits(t, two, most, api.OK)
	fits(t, array(), most, api.ErrKind)
	fits(t, api.Value{}, api.Limits{}, api.ErrArg)
	fits(t, api.Value{}, most, api.ErrKind)
}

// A document just at its own depth and at its own size, one below each, and one above.
func TestFitsAtItsEdges(t *testing.T) {
	for _, v := range trees() {
		v := doc(field("v", v), field("w", doc(field("x", null()))))
		depth, n := depthOf(v), sum(v)
		for d := depth - 1; d <= depth+1; d++ {
			for s := n - 1; s <= n+1; s++ {
				want := api.OK
				if d < depth {
					want = api.ErrDeep
				} else if s < n {
					want = api.ErrSize
				}
				fits(t, v, limits(d, s), want)
				fits(t, v, api.Limits{Depth: d, Size: s, Out: 1}, want)
				fits(t, v, api.Limits{Depth: d, Size: s, Out: api.MaxOut}, want)
				fits(t, v, api.Limits{Depth: d, Size: s, Out: -1}, api.ErrArg)
				fits(t, v, api.Limits{Depth: d, Size: s, Out: api.MaxOut + 1}, api.ErrArg)
			}
		}
		for kind := range 300 {
			if v.Kind = kind; kind != api.Document {
				fits(t, v, limits(depth, n), api.ErrKind)
			}
		}
	}
}

func TestFitsAtTheGreatestDepth(t *testing.T) {
	for _, kinds := range [][]int{{api.Document}, {api.Document, api.Array}, {api.Document, api.Scoped}, {api.Document, api.Array, api.Scoped}} {
		fits(t, nested(null(), 199, kinds...), most, api.OK)
		fits(t, nested(null(), 200, kinds...), most, api.OK)
		fits(t, nested(null(), 201, kinds...), most, api.ErrDeep)
		fits(t, nested(doc(), 199, kinds...), most, api.OK)
		fits(t, nested(doc(), 200, kinds...), most, api.ErrDeep)
		fits(t, nested(api.Value{Kind: 99, Kids: []api.Field{field("a", doc())}}, 200, kinds...), most, api.OK)
		fits(t, nested(api.Value{Kind: api.Null, Kids: rich().Kids}, 200, kinds...), most, api.OK)
		fits(t, nested(null(), 200, kinds...), limits(199, 1<<24), api.ErrDeep)
		for _, depth := range []int{256, 257, 1000, 1<<15 + 1, 1<<16 - 1} {
			fits(t, nested(null(), depth, kinds...), most, api.ErrDeep)
		}
	}
}

func TestFitsAtTheGreatestSize(t *testing.T) {
	for _, n := range []int{12, 13, 255, 256, 65536, 1<<24 - 1, 1 << 24} {
		v := sized(n)
		has(t, v, n)
		fits(t, v, limits(1, n), api.OK)
		fits(t, v, most, api.OK)
		if fits(t, v, limits(1, n-1), api.ErrSize); n < 1<<24 {
			fits(t, v, limits(1, n+1), api.OK)
		}
	}
	fits(t, sized(1<<24+1), most, api.ErrSize)
	fits(t, sized(1<<24+1), limits(1, 1<<24+1), api.ErrArg)
	fits(t, doc(field("b", bin(2, make([]byte, 1<<24-17)...))), most, api.OK)
	fits(t, doc(field("b", bin(2, make([]byte, 1<<24-16)...))), most, api.ErrSize)
	fits(t, doc(field("b", bin(3, make([]byte, 1<<24-13)...))), most, api.OK)
	fits(t, doc(field("b", bin(3, make([]byte, 1<<24-12)...))), most, api.ErrSize)
	fits(t, doc(field(strings.Repeat("\xff", 1<<24-7), null())), most, api.OK)
	fits(t, doc(field(strings.Repeat("\xff", 1<<24-6), null())), most, api.ErrSize)
}

// Of two or more that hold it is the one that stands first.
func TestFitsByTheFirstError(t *testing.T) {
	deep, great, both := nested(doc(), 3, api.Document), sized(1000), nested(sized(1000), 3, api.Document)
	arrays := func(v api.Value) api.Value {
		v.Kind = api.Array
		return v
	}
	for _, l := range []api.Limits{{}, {Depth: 0, Size: 5}, {Depth: 201, Size: 5}, {Depth: 1, Size: 4}, {Depth: 1, Size: 1<<24 + 1}, {Depth: 1, Size: 5, Out: -1}, {Depth: 1, Size: 5, Out: 1<<26 + 1}, {Depth: math.MinInt, Size: math.MinInt, Out: math.MinInt}, {Depth: math.MaxInt, Size: math.MaxInt, Out: math.MaxInt}} {
		for _, v := range []api.Value{{}, doc(), array(), deep, great, both, arrays(deep), arrays(great), arrays(both), rich(), null()} {
			fits(t, v, l, api.ErrArg)
		}
	}
	for _, l := range []api.Limits{limits(1, 5), limits(3, 5), limits(1, 1000), most} {
		for _, v := range []api.Value{{}, array(), arrays(deep), arrays(great), arrays(both), null(), scoped("x", both.Kids...)} {
			fits(t, v, l, api.ErrKind)
		}
	}
	fits(t, both, limits(1, 5), api.ErrDeep)
	fits(t, both, limits(3, 5), api.ErrDeep)
	fits(t, both, limits(4, 5), api.ErrSize)
	fits(t, both, limits(3, 5000), api.ErrDeep)
	fits(t, both, limits(4, 1020), api.ErrSize)
	fits(t, both, limits(4, 1021), api.OK)
	fits(t, deep, limits(3, 26), api.ErrDeep)
	fits(t, deep, limits(4, 25), api.ErrSize)
	fits(t, deep, limits(4, 26), api.OK)
}

func TestFitsOfEachKind(t *testing.T) {
	for _, kind := range allKinds() {
		for _, v := range []api.Value{{Kind: kind}, laden(kind)} {
			for _, l := range []api.Limits{limits(1, 5), limits(2, 25), most, {Depth: 2, Size: 25, Out: 1 << 26}, {}, {Depth: 2, Size: 25, Out: -1}} {
				fits(t, v, l, judged(v, l))
			}
			if kind != api.Document {
				fits(t, v, most, api.ErrKind)
			}
			fits(t, doc(field("k", v)), most, api.OK)
		}
	}
}

// Fits asks for no more than Kind, depth and size: a document that chapter 17 would not have fits, too.
func TestFitsOfTreesThatAreNotSuch(t *testing.T) {
	for _, v := range []api.Value{doc(field("\xff", num(1<<40))), doc(field("a\x00", str("\xff"))), {Kind: api.Document, Bits: 1, High: 1, Low: 1, Text: "\xff", More: "x", Sub: 2, Bytes: []byte("abc")}, doc(field("o", api.Value{Kind: api.ObjectID}))} {
		fits(t, v, limits(1, sum(v)), api.OK)
		if sum(v) > 5 {
			fits(t, v, limits(1, sum(v)-1), api.ErrSize)
		}
	}
}

// R1

func TestAnyArguments(t *testing.T) {
	numbers := []int{math.MinInt, -1, 0, 1, 2, 5, 200, 201, 1 << 24, 1<<24 + 1, 1 << 26, 1<<26 + 1, math.MaxInt}
	for _, v := range trees() {
		for _, depth := range numbers {
			for _, n := range numbers {
				for _, out := range numbers {
					l := api.Limits{Depth: depth, Size: n, Out: out}
					want := judged(v, l)
					if e := size.Fits(v, l); e != want {
						t.Errorf("Fits(%s, %v): %d, not %d", cut(v), l, e, want)
					}
					if size.May(l) != (want != api.ErrArg) {
						t.Errorf("May(%v)", l)
					}
				}
			}
		}
	}
}

// R4

// shared has the same lists at several places.
func shared() api.Value {
	b := []byte("abcdef")
	kids := []api.Field{field("x", bin(2, b[:4]...)), field("y", api.Value{Kind: api.Binary, Bytes: b[2:]}), field("z", doc())}
	return doc(field("a", array(kids...)), field("b", array(kids[:2]...)), field("c", doc(kids[1:]...)), field("d", api.Value{Kind: api.Binary, Bytes: b[:0]}), field("e", doc(kids[:0]...)))
}

func TestArgumentsAreLeftAsTheyAre(t *testing.T) {
	for _, v := range append(trees(), shared()) {
		for _, v := range []api.Value{v, roomy(v), emptied(v)} {
			before := picture(v)
			for range 2 {
				if n := size.Of(v); n != sum(v) {
					t.Errorf("Of(%s): %d", cut(v), n)
				}
				for _, l := range []api.Limits{{}, limits(1, 5), limits(3, 50), most} {
					if e := size.Fits(v, l); e != judged(v, l) {
						t.Errorf("Fits(%s, %v): %d", cut(v), l, e)
					}
				}
			}
			if picture(v) != before {
				t.Errorf("%s was changed", cut(v))
			}
		}
	}
}

// R3, R4, R5: nothing is kept of what an earlier call was given.
func TestNothingIsKept(t *testing.T) {
	v := doc(field("a", bin(0, 1, 2)), field("b", str("x")))
	has(t, v, 5+3+7+3+6)
	v.Kids[0].Value.Sub = 2
	has(t, v, 5+3+11+3+6)
	v.Kids[1].Name = ""
	has(t, v, 5+3+11+2+6)
	v.Kids = v.Kids[:1]
	has(t, v, 5+3+11)
	for range 3 {
		fits(t, v, api.Limits{}, api.ErrArg)
		fits(t, null(), most, api.ErrKind)
		fits(t, v, limits(1, 18), api.ErrSize)
		fits(t, doc(field("v", v)), limits(1, 100), api.ErrDeep)
		fits(t, v, limits(1, 19), api.OK)
	}
}
