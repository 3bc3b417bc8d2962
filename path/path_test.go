package path_test

import (
	"bytes"
	"fmt"
	"math"
	"math/rand"
	"slices"
	"strconv"
	"strings"
	"testing"

	"propylon/api"
	"propylon/path"
	"propylon/tree"
)

// allKinds are the numbers of all Kinds, written out anew.
var allKinds = []int{1, 2, 3, 4, 5, 6, 7, 8, 9, 10, 11, 12, 13, 14, 15, 16, 17, 18, 19, 127, 255}

// noKinds are numbers of no Kind.
var noKinds = []int{math.MinInt, math.MinInt + 3, -1 << 32, -253, -3, -1, 0, 20, 77, 126, 128, 254, 256, 259, 1 << 16, 1<<32 + 3, math.MaxInt - 1, math.MaxInt}

// noPlaces are numbers of no Kid, however many there are in a test; some have the number of one in their lowest bits.
var noPlaces = []int{math.MinInt, math.MinInt + 1, math.MinInt32, -1 << 32, -1<<32 + 1, -256, -3, -2, -1, 1 << 30, math.MaxInt32, 1 << 32, 1<<32 + 1, 1 << 62, math.MaxInt - 1, math.MaxInt}

// oddNames are Names that are empty, not whole, or have a byte 0.
var oddNames = []string{"", "\xff", "a\x00b", "\x00", "\xe2\x82", "\xed\xa0\x80", "0", "-1", "a/b", "€", strings.Repeat("x", 1000)}

func field(name string, v api.Value) api.Field { return api.Field{Name: name, Value: v} }
func doc(kids ...api.Field) api.Value          { return api.Value{Kind: api.Document, Kids: kids} }
func array(kids ...api.Field) api.Value        { return api.Value{Kind: api.Array, Kids: kids} }
func scoped(kids ...api.Field) api.Value       { return api.Value{Kind: api.Scoped, Text: "f", Kids: kids} }
func null() api.Value                          { return api.Value{Kind: api.Null} }
func num(n uint64) api.Value                   { return api.Value{Kind: api.Int32, Bits: n} }
func str(s string) api.Value                   { return api.Value{Kind: api.String, Text: s} }
func bin(b ...byte) api.Value                  { return api.Value{Kind: api.Binary, Sub: 2, Bytes: b} }

// full has all its fields other than zero, and a Kind that is none.
func full() api.Value {
	return api.Value{Kind: 77, Bits: 1, High: 2, Low: 3, Text: "t", More: "m", Sub: 4, Bytes: []byte{5, 6}, Kids: []api.Field{field("x", doc()), field("\xff", num(1<<40)), field("x", null())}}
}

// small is the tree whose paths the tests tell one by one.
func small() api.Value {
	return doc(field("a", doc(field("b", num(1)), field("c", array(field("0", num(2)), field("1", doc()))))), field("", null()), field("a", scoped(field("\xff", bin(1, 2)), field("\xff", full()))))
}

const smallPaths = "[[] [0] [0 0] [0 1] [0 1 0] [0 1 1] [1] [2] [2 0] [2 1] [2 1 0] [2 1 1] [2 1 2]]"

// rich has Kids of unlike depths, and values such as they should not be.
func rich() api.Value {
	odd := api.Value{Kind: api.Null, Kids: []api.Field{field("n", api.Value{Kind: api.String, Text: "\xff", Kids: []api.Field{field("", full())}}), field("o", doc())}}
	return doc(
		field("double", api.Value{Kind: api.Double, Bits: 0x7ff8000000000001}), field("decimal", api.Value{Kind: api.Decimal, High: 1, Low: 2}),
		field("a", array(field("0", str("x")), field("1", api.Value{Kind: api.Regex, Text: "p", More: "i"}), field("2", scoped(field("b", bin(1, 2, 3)))))),
		field("a", doc(field("oid", api.Value{Kind: api.ObjectID, Bytes: []byte("abcdefghijkl")}), field("", doc(field("p", api.Value{Kind: api.Pointer, Text: "p", Bytes: []byte("abcdefghijkl")}), field("p", null()))))),
		field("odd", odd), field("", doc()), field("full", full()),
	)
}

// trees are those at which the calls are held.
func trees() []api.Value {
	l := []api.Value{{}, {Kind: 99}, doc(), array(), scoped(), null(), num(7), str("\xff"), bin(1), full(), small(), rich(), nested(rich(), 4), doc(field("only", rich())), array(field("0", doc()), field("1", doc(field("x", doc(field("y", doc()))))), field("2", doc(field("z", null()))))}
	for _, kind := range slices.Concat(allKinds, noKinds) {
		l = append(l, api.Value{Kind: kind}, api.Value{Kind: kind, Kids: []api.Field{field("k", num(5)), field("k", api.Value{Kind: kind, Kids: []api.Field{field("l", str("s"))}})}})
	}
	return l
}

// nested are documents, arrays and scopes in one another, with v in the innermost one.
func nested(v api.Value, depth int) api.Value {
	for i := range depth {
		v = api.Value{Kind: []int{api.Document, api.Array, api.Scoped}[i%3], Kids: []api.Field{field("d"+strconv.Itoa(i%7), v)}}
	}
	return v
}

// found is a value of a tree, with its path and the Names on the way to it.
type found struct {
	v     api.Value
	path  []int
	names []string
}

// row are a value and all within it, each ahead of its Kids, and those in order, found without recursion.
func row(v api.Value) []found {
	var l []found
	for todo := []found{{v: v}}; len(todo) > 0; {
		f := todo[len(todo)-1]
		todo = todo[:len(todo)-1]
		l = append(l, f)
		for i := len(f.v.Kids) - 1; i >= 0; i-- {
			todo = append(todo, found{f.v.Kids[i].Value, append(slices.Clone(f.path), i), append(slices.Clone(f.names), f.v.Kids[i].Name)})
		}
	}
	return l
}

// copied is a tree with no list of the old one.
func copied(v api.Value) api.Value {
	v.Bytes = slices.Clone(v.Bytes)
	v.Kids = slices.Clone(v.Kids)
	for i := range v.Kids {
		v.Kids[i].Value = copied(v.Kids[i].Value)
	}
	return v
}

// roomy is a copy whose lists have spare room that is filled.
func roomy(v api.Value) api.Value {
	v.Bytes = append(slices.Clone(v.Bytes), "zzzzzzzzzzzz"...)[:len(v.Bytes)]
	kids := append(slices.Clone(v.Kids), field("\xff", num(9)), field("spare", doc()))[:len(v.Kids)]
	for i := range kids {
		kids[i].Value = roomy(kids[i].Value)
	}
	v.Kids = kids
	return v
}

// emptied is a copy that has empty lists where v has nil ones.
func emptied(v api.Value) api.Value {
	v = copied(v)
	if v.Bytes == nil {
		v.Bytes = []byte{}
	}
	if v.Kids == nil {
		v.Kids = []api.Field{}
	}
	for i := range v.Kids {
		v.Kids[i].Value = emptied(v.Kids[i].Value)
	}
	return v
}

// at is where the value with this path is in v.
func at(v *api.Value, p []int) *api.Value {
	for _, i := range p {
		v = &v.Kids[i].Value
	}
	return v
}

// picture tells all that a tree has, what is in its spare room too.
func picture(v api.Value) string {
	var b strings.Builder
	fmt.Fprintf(&b, "%d %d %d %d %q %q %d %d %x (", v.Kind, v.Bits, v.High, v.Low, v.Text, v.More, v.Sub, len(v.Bytes), v.Bytes[:cap(v.Bytes)])
	for i, kid := range v.Kids[:cap(v.Kids)] {
		if i == len(v.Kids) {
			b.WriteString("| ")
		}
		fmt.Fprintf(&b, "%q: %s ", kid.Name, picture(kid.Value))
	}
	b.WriteString(")")
	return b.String()
}

// cut keeps what a test tells short.
func cut(v any) string {
	s := fmt.Sprintf("%+q", fmt.Sprint(v))
	if len(s) > 200 {
		return s[:200] + ".."
	}
	return s
}

// fieldsAlike says by the words of the chapter whether Kind and all other fields, Kids apart, are the same.
func fieldsAlike(a, b api.Value) bool {
	return a.Kind == b.Kind && a.Bits == b.Bits && a.High == b.High && a.Low == b.Low && a.Text == b.Text && a.More == b.More && a.Sub == b.Sub && bytes.Equal(a.Bytes, b.Bytes)
}

// rowsAlike holds two trees against each other by their rows.
func rowsAlike(l, m []found) bool {
	return slices.EqualFunc(l, m, func(f, g found) bool {
		return slices.Equal(f.path, g.path) && slices.Equal(f.names, g.names) && fieldsAlike(f.v, g.v)
	})
}

// differences says what Diff should tell.
func differences(a, b api.Value) ([][]int, bool) {
	l, m := row(a), row(b)
	oneShape := slices.EqualFunc(l, m, func(f, g found) bool {
		return slices.Equal(f.path, g.path) && slices.Equal(f.names, g.names)
	})
	if !oneShape {
		return nil, false
	}
	var differ [][]int
	for i := range l {
		if !fieldsAlike(l[i].v, m[i].v) {
			differ = append(differ, l[i].path)
		}
	}
	return differ, true
}

func pathsAlike(l, m [][]int) bool {
	return slices.EqualFunc(l, m, func(p, q []int) bool { return slices.Equal(p, q) })
}

// leads holds Get and Names at a path that leads to a value.
func leads(t *testing.T, v api.Value, p []int, want api.Value, names ...string) {
	t.Helper()
	got, ok := path.Get(v, p)
	if !ok || !rowsAlike(row(got), row(want)) {
		t.Errorf("Get(%s, %s): %s, %v, not %s", cut(v), cut(p), cut(got), ok, cut(want))
	}
	l, ok := path.Names(v, p)
	if !ok || !slices.Equal(l, names) {
		t.Errorf("Names(%s, %s): %s, %v, not %s", cut(v), cut(p), cut(l), ok, cut(names))
	}
}

// astray holds Get and Names at a path that leads to nothing; by R2 there is nothing beside false.
func astray(t *testing.T, v api.Value, p ...int) {
	t.Helper()
	got, ok := path.Get(v, p)
	if ok || !fieldsAlike(got, api.Value{}) || len(got.Kids) > 0 {
		t.Errorf("Get(%s, %s): %s, %v", cut(v), cut(p), cut(got), ok)
	}
	l, ok := path.Names(v, p)
	if ok || len(l) > 0 {
		t.Errorf("Names(%s, %s): %s, %v", cut(v), cut(p), cut(l), ok)
	}
}

// P18.1: Get, Names

func TestWays(t *testing.T) {
	leads(t, doc(field("a", doc(field("b", num(1))))), []int{0, 0}, num(1), "a", "b")
	v := small()
	leads(t, v, nil, v)
	leads(t, v, []int{}, v)
	leads(t, v, []int{0}, v.Kids[0].Value, "a")
	leads(t, v, []int{0, 0}, num(1), "a", "b")
	leads(t, v, []int{0, 1}, array(field("0", num(2)), field("1", doc())), "a", "c")
	leads(t, v, []int{0, 1, 0}, num(2), "a", "c", "0")
	leads(t, v, []int{0, 1, 1}, doc(), "a", "c", "1")
	leads(t, v, []int{1}, null(), "")
	leads(t, v, []int{2}, v.Kids[2].Value, "a")
	leads(t, v, []int{2, 0}, bin(1, 2), "a", "\xff")
	leads(t, v, []int{2, 1}, full(), "a", "\xff")
	leads(t, v, []int{2, 1, 0}, doc(), "a", "\xff", "x")
	leads(t, v, []int{2, 1, 1}, num(1<<40), "a", "\xff", "\xff")
	leads(t, v, []int{2, 1, 2}, null(), "a", "\xff", "x")
}

func TestEmptyPath(t *testing.T) {
	for _, v := range trees() {
		leads(t, v, nil, v)
		leads(t, v, []int{}, v)
		leads(t, v, []int{0, 1, -1}[:0], v)
		leads(t, roomy(v), nil, v)
		leads(t, emptied(v), nil, v)
	}
}

func TestEachPath(t *testing.T) {
	for _, v := range trees() {
		for _, f := range row(v) {
			leads(t, v, f.path, f.v, f.names...)
			leads(t, roomy(v), append(slices.Clone(f.path), -1, 0, 99)[:len(f.path)], f.v, f.names...)
		}
	}
}

// Each number of each path in turn made one that is no place: the first, the inner ones, the last.
func TestNumbersThatAreNoPlace(t *testing.T) {
	for _, v := range append(trees(), nested(small(), 9)) {
		for _, f := range row(v) {
			for i := range f.path {
				n := len(at(&v, f.path[:i]).Kids)
				for _, wrong := range append([]int{n, n + 1, n + 2, -n, -n - 1, f.path[i] + 1<<32, f.path[i] + math.MinInt, ^f.path[i]}, noPlaces...) {
					if wrong >= 0 && wrong < n {
						continue
					}
					p := slices.Clone(f.path)
					p[i] = wrong
					astray(t, v, p...)
					astray(t, roomy(v), p...)
					astray(t, v, p[:i+1]...)
				}
			}
		}
	}
}

func TestNumbersBehindAPath(t *testing.T) {
	for _, v := range trees() {
		for _, f := range row(v) {
			n := len(f.v.Kids)
			for _, wrong := range append([]int{n, n + 1, -n - 1}, noPlaces...) {
				astray(t, v, append(slices.Clone(f.path), wrong)...)
				astray(t, v, append(slices.Clone(f.path), wrong, 0)...)
				astray(t, v, append(slices.Clone(f.path), wrong, wrong, wrong)...)
			}
		}
	}
}

// A path that goes on behind a value without Kids; of a list's spare room nothing is a place.
func TestBehindAValueWithoutKids(t *testing.T) {
	for _, kind := range slices.Concat(allKinds, noKinds) {
		for _, kids := range [][]api.Field{nil, {}, []api.Field{field("spare", doc())}[:0], make([]api.Field, 0, 5)} {
			v := api.Value{Kind: kind, Kids: kids}
			for _, tail := range [][]int{{0}, {1}, {-1}, {0, 0}, {0, 0, 0}, {0, -1}, {math.MaxInt}, {math.MinInt}, make([]int, 1000)} {
				astray(t, v, tail...)
				astray(t, doc(field("a", v)), append([]int{0}, tail...)...)
				astray(t, array(field("0", doc()), field("1", scoped(field("b", v)))), append([]int{1, 0}, tail...)...)
			}
		}
	}
	astray(t, small(), 1, 0)
	astray(t, small(), 0, 0, 0)
	astray(t, small(), 0, 1, 0, 0)
	astray(t, small(), 0, 1, 1, 0)
	astray(t, small(), 2, 1, 2, 0)
	astray(t, small(), 3)
	astray(t, small(), 3, 0)
}

func TestKidsOfAnyKind(t *testing.T) {
	for _, kind := range slices.Concat(allKinds, noKinds) {
		v := api.Value{Kind: kind, Kids: []api.Field{field("p", null()), field("q", api.Value{Kind: kind, Kids: []api.Field{field("r", str("s"))}})}}
		leads(t, v, []int{0}, null(), "p")
		leads(t, v, []int{1, 0}, str("s"), "q", "r")
		leads(t, doc(field("o", v)), []int{0, 1}, v.Kids[1].Value, "o", "q")
		leads(t, doc(field("o", v)), []int{0, 1, 0}, str("s"), "o", "q", "r")
		astray(t, v, 2)
		astray(t, v, 0, 0)
		lays(t, v, [][]int{{}, {0}, {1}, {1, 0}})
		lays(t, doc(field("o", v)), [][]int{{}, {0}, {0, 0}, {0, 1}, {0, 1, 0}})
		lays(t, api.Value{Kind: kind}, [][]int{{}})
	}
}

func TestNames(t *testing.T) {
	for _, one := range oddNames {
		for _, other := range oddNames {
			v := doc(field(one, null()), field(other, array(field(one, doc(field(other, num(3)))), field(one, num(4)))), field(one, null()))
			leads(t, v, []int{0}, null(), one)
			leads(t, v, []int{1}, v.Kids[1].Value, other)
			leads(t, v, []int{2}, null(), one)
			leads(t, v, []int{1, 0}, doc(field(other, num(3))), other, one)
			leads(t, v, []int{1, 1}, num(4), other, one)
			leads(t, v, []int{1, 0, 0}, num(3), other, one, other)
			astray(t, v, 1, 0, 1)
		}
	}
}

// P18.1: All

// lays holds All, how many paths there are, and that Get goes by each.
func lays(t *testing.T, v api.Value, want [][]int) {
	t.Helper()
	l := path.All(v)
	if !pathsAlike(l, want) {
		t.Errorf("All(%s): %s, not %s", cut(v), cut(l), cut(want))
	}
	if len(l) != tree.Count(v) {
		t.Errorf("All(%s): %d paths, but %d values", cut(v), len(l), tree.Count(v))
	}
}

// paths are those of a row.
func paths(l []found) [][]int {
	var all [][]int
	for _, f := range l {
		all = append(all, f.path)
	}
	return all
}

func TestAll(t *testing.T) {
	if s := fmt.Sprint(path.All(small())); s != smallPaths {
		t.Errorf("All: %s", s)
	}
	lays(t, api.Value{}, [][]int{{}})
	lays(t, null(), [][]int{{}})
	lays(t, doc(), [][]int{{}})
	lays(t, doc(field("a", null())), [][]int{{}, {0}})
	lays(t, doc(field("a", doc())), [][]int{{}, {0}})
	lays(t, array(field("x", null()), field("x", null()), field("x", null())), [][]int{{}, {0}, {1}, {2}})
	lays(t, doc(field("a", doc(field("b", doc(field("c", null())))))), [][]int{{}, {0}, {0, 0}, {0, 0, 0}})
	lays(t, doc(field("a", null()), field("b", doc(field("c", doc(field("d", null()))), field("e", null()))), field("f", doc(field("g", null())))), [][]int{{}, {0}, {1}, {1, 0}, {1, 0, 0}, {1, 1}, {2}, {2, 0}})
	lays(t, doc(field("a", doc(field("b", doc(field("c", null()), field("d", null()))))), field("e", null())), [][]int{{}, {0}, {0, 0}, {0, 0, 0}, {0, 0, 1}, {1}})
	lays(t, api.Value{Kids: []api.Field{field("spare", doc())}[:0]}, [][]int{{}})
	for _, v := range trees() {
		lays(t, v, paths(row(v)))
		lays(t, roomy(v), paths(row(v)))
		lays(t, emptied(v), paths(row(v)))
	}
}

func TestGetGoesByEachOfAll(t *testing.T) {
	for _, v := range append(trees(), nested(rich(), 20)) {
		l := row(v)
		for i, p := range path.All(v) {
			leads(t, v, p, l[i].v, l[i].names...)
		}
	}
}

// P18.2: Diff

// differs holds Diff in both orders; P18.3 beside it, in whatever trees come.
func differs(t *testing.T, a, b api.Value, want [][]int, is bool) {
	t.Helper()
	for range 2 {
		l, ok := path.Diff(a, b)
		if !pathsAlike(l, want) || ok != is {
			t.Errorf("Diff(%s, %s): %s, %v, not %s, %v", cut(a), cut(b), cut(l), ok, cut(want), is)
		}
		if tree.Same(a, b) != (ok && len(l) == 0) {
			t.Errorf("Diff(%s, %s): %s, %v, but Same tells %v", cut(a), cut(b), cut(l), ok, tree.Same(a, b))
		}
		a, b = b, a
	}
}

// changes are ways to make one field of a value another one, Kids apart.
func changes() []func(v *api.Value) {
	return []func(v *api.Value){
		func(v *api.Value) { v.Kind++ }, func(v *api.Value) { v.Kind = -v.Kind - 1 }, func(v *api.Value) { v.Kind += 256 }, func(v *api.Value) { v.Kind += 1 << 32 },
		func(v *api.Value) { v.Bits ^= 1 }, func(v *api.Value) { v.Bits ^= 1 << 32 }, func(v *api.Value) { v.Bits ^= 1 << 63 },
		func(v *api.Value) { v.High ^= 1 }, func(v *api.Value) { v.High ^= 1 << 63 }, func(v *api.Value) { v.Low ^= 1 }, func(v *api.Value) { v.Low ^= 1 << 63 }, func(v *api.Value) { v.High, v.Low = v.Low+1, v.High },
		func(v *api.Value) { v.Text += "x" }, func(v *api.Value) { v.Text = "\x00" + v.Text }, func(v *api.Value) { v.Text += "\xff" }, func(v *api.Value) { v.More += "x" }, func(v *api.Value) { v.More = "\x00" + v.More }, func(v *api.Value) { v.Text, v.More = v.More+"y", v.Text },
		func(v *api.Value) { v.Sub++ }, func(v *api.Value) { v.Sub = -v.Sub - 1 }, func(v *api.Value) { v.Sub += 256 }, func(v *api.Value) { v.Sub += 1 << 32 },
		func(v *api.Value) { v.Bytes = append(v.Bytes, 0) }, func(v *api.Value) { v.Bytes = append([]byte{0}, v.Bytes...) }, func(v *api.Value) { v.Bytes = append(slices.Clone(v.Bytes), 1)[:len(v.Bytes)+1] },
	}
}

// turns are ways to make the Kids of a value others, so that the shape is another one; false if there is nothing to turn.
func turns() []func(v *api.Value) bool {
	l := []func(v *api.Value) bool{
		func(v *api.Value) bool { v.Kids = append(v.Kids, field("", null())); return true },
		func(v *api.Value) bool { v.Kids = append(v.Kids, api.Field{}); return true },
		func(v *api.Value) bool { v.Kids = append([]api.Field{field("a", null())}, v.Kids...); return true },
		func(v *api.Value) bool { v.Kids = append(v.Kids, v.Kids...); return len(v.Kids) > 0 },
	}
	for _, one := range []func(kids []api.Field, i int) []api.Field{
		func(kids []api.Field, i int) []api.Field { return slices.Delete(kids, i, i+1) },
		func(kids []api.Field, i int) []api.Field { return slices.Insert(kids, i, kids[i]) },
		func(kids []api.Field, i int) []api.Field { kids[i].Name += "x"; return kids },
		func(kids []api.Field, i int) []api.Field { kids[i].Name += "\x00"; return kids },
		func(kids []api.Field, i int) []api.Field { kids[i].Name = "\xfe" + kids[i].Name; return kids },
		func(kids []api.Field, i int) []api.Field {
			last := len(kids) - 1
			kids[i], kids[last] = kids[last], kids[i]
			if kids[i].Name == kids[last].Name {
				kids[last].Name += "y"
			}
			return kids
		},
	} {
		for _, where := range []func(n int) int{func(n int) int { return 0 }, func(n int) int { return n / 2 }, func(n int) int { return n - 1 }} {
			l = append(l, func(v *api.Value) bool {
				if len(v.Kids) == 0 {
					return false
				}
				v.Kids = one(v.Kids, where(len(v.Kids)))
				return true
			})
		}
	}
	return l
}

func TestDiffOfOneTree(t *testing.T) {
	for _, v := range append(trees(), nested(rich(), 30)) {
		differs(t, v, v, nil, true)
		differs(t, v, copied(v), nil, true)
		differs(t, v, roomy(v), nil, true)
		differs(t, v, emptied(v), nil, true)
		differs(t, roomy(v), emptied(v), nil, true)
	}
	differs(t, bin(), api.Value{Kind: api.Binary, Sub: 2, Bytes: []byte{}}, nil, true)
	differs(t, doc(field("a", bin())), doc(field("a", api.Value{Kind: api.Binary, Sub: 2, Bytes: []byte("zz")[:0]})), nil, true)
	differs(t, api.Value{}, api.Value{Bytes: []byte{}, Kids: []api.Field{}}, nil, true)
	differs(t, api.Value{}, api.Value{Bytes: []byte{0}}, [][]int{{}}, true)
}

// Each field in turn, at each value of each tree.
func TestDiffOfOneField(t *testing.T) {
	for _, v := range append(trees(), nested(rich(), 5)) {
		for _, f := range row(v) {
			for _, change := range changes() {
				other := copied(v)
				change(at(&other, f.path))
				differs(t, v, other, [][]int{f.path}, true)
			}
			for i := range f.v.Bytes {
				other := copied(v)
				at(&other, f.path).Bytes[i] ^= 0x80
				differs(t, v, other, [][]int{f.path}, true)
				other = copied(v)
				place := at(&other, f.path)
				place.Bytes = place.Bytes[:i]
				differs(t, v, other, [][]int{f.path}, true)
			}
		}
	}
}

// One field at two values, whatever their order; and at all of them.
func TestDiffOfSeveralValues(t *testing.T) {
	for _, v := range []api.Value{small(), rich(), nested(small(), 3)} {
		l := row(v)
		for i, f := range l {
			for k, g := range l[:i] {
				for _, n := range []int{0, 4, 7, 12, 15, 18, 22} {
					other := copied(v)
					changes()[n](at(&other, f.path))
					changes()[(n+i+k)%len(changes())](at(&other, g.path))
					differs(t, v, other, [][]int{g.path, f.path}, true)
				}
			}
		}
		for _, change := range changes() {
			other := copied(v)
			for _, f := range l {
				change(at(&other, f.path))
			}
			differs(t, v, other, path.All(v), true)
		}
	}
}

func TestDiff(t *testing.T) {
	v := small()
	a, b := copied(v), copied(v)
	a.Bits, a.Kids[0].Value.Kids[1].Value.Kids[0].Value.Bits, a.Kids[1].Value.Kind = 1, 9, api.Undefined
	b.Kids[0].Value.Kids[0].Value.Text, b.Kids[2].Value.Kids[1].Value.Bytes, b.Kids[2].Value.Kids[1].Value.Kids[2].Value.Sub = "t", nil, -1
	differs(t, v, a, [][]int{{}, {0, 1, 0}, {1}}, true)
	differs(t, v, b, [][]int{{0, 0}, {2, 1}, {2, 1, 2}}, true)
	differs(t, a, b, [][]int{{}, {0, 0}, {0, 1, 0}, {1}, {2, 1}, {2, 1, 2}}, true)
	differs(t, num(1), num(1), nil, true)
	differs(t, num(1), num(2), [][]int{{}}, true)
	differs(t, doc(), array(), [][]int{{}}, true)
	differs(t, doc(), null(), [][]int{{}}, true)
	differs(t, api.Value{Kind: 3}, api.Value{Kind: 300}, [][]int{{}}, true)
	differs(t, doc(field("a", num(1)), field("b", num(2))), array(field("a", num(1)), field("b", num(3))), [][]int{{}, {1}}, true)
	differs(t, doc(field("a", doc())), doc(field("a", null())), [][]int{{0}}, true)
	differs(t, doc(field("a", num(1))), doc(), nil, false)
	differs(t, doc(field("a", num(1))), doc(field("b", num(1))), nil, false)
	differs(t, doc(field("a", num(1)), field("b", num(2))), doc(field("b", num(2)), field("a", num(1))), nil, false)
	differs(t, doc(field("a", num(1)), field("b", num(2))), doc(field("b", num(1)), field("a", num(2))), nil, false)
	differs(t, doc(field("a", num(1)), field("a", num(2))), doc(field("a", num(2)), field("a", num(1))), [][]int{{0}, {1}}, true)
	differs(t, doc(field("a", doc(field("b", null())))), doc(field("a", doc(field("c", null())))), nil, false)
	differs(t, doc(field("a", doc(field("b", null())))), doc(field("a", doc())), nil, false)
	differs(t, doc(field("a", doc(field("b", null()))), field("c", doc())), doc(field("a", doc()), field("c", doc(field("b", null())))), nil, false)
	differs(t, doc(field("a", doc(field("b", doc())))), doc(field("a", doc()), field("b", doc())), nil, false)
	differs(t, doc(), doc(api.Field{}), nil, false)
	differs(t, api.Value{}, small(), nil, false)
}

// Another shape at each value, alone, and beside a field that parts ahead of it, at it, and behind it.
func TestDiffOfUnlikeShapes(t *testing.T) {
	for _, v := range []api.Value{{}, doc(), small(), rich(), full(), nested(small(), 4)} {
		l := row(v)
		for i, f := range l {
			for _, turn := range turns() {
				other := copied(v)
				if !turn(at(&other, f.path)) {
					continue
				}
				differs(t, v, other, nil, false)
				for _, k := range []int{0, i - 1, i, i + 1, len(l) - 1} {
					if k < 0 || k >= len(l) {
						continue
					}
					for _, n := range []int{0, 4, 12, 22} {
						parts := copied(v)
						changes()[n](at(&parts, l[k].path))
						differs(t, parts, other, nil, false)
					}
				}
			}
		}
	}
}

// P18.3

func TestSameIsADiffWithoutPaths(t *testing.T) {
	var l []api.Value
	for _, kind := range allKinds {
		l = append(l, api.Value{Kind: kind}, api.Value{Kind: kind, Bits: 1}, api.Value{Kind: kind, High: 1}, api.Value{Kind: kind, Low: 1}, api.Value{Kind: kind, Text: "1"}, api.Value{Kind: kind, More: "1"}, api.Value{Kind: kind, Sub: 1}, api.Value{Kind: kind, Bytes: []byte{1}}, api.Value{Kind: kind, Kids: []api.Field{field("1", null())}}, api.Value{Kind: kind, Kids: []api.Field{field("", null())}}, api.Value{Kind: kind, Kids: []api.Field{field("1", doc())}})
	}
	for i, a := range l {
		for k, b := range l {
			want, is := differences(a, b)
			differs(t, a, b, want, is)
			if i == k != (is && len(want) == 0) {
				t.Errorf("Diff(%s, %s) is thought to be %v, %v", cut(a), cut(b), want, is)
			}
		}
	}
}

// drawer draws trees.
type drawer struct{ *rand.Rand }

func (d drawer) value() api.Value {
	v := api.Value{Kind: allKinds[d.Intn(len(allKinds))]}
	if d.Intn(8) == 0 {
		v.Kind = noKinds[d.Intn(len(noKinds))]
	}
	for range d.Intn(4) {
		changes()[d.Intn(len(changes()))](&v)
	}
	return v
}

func (d drawer) tree(depth int) api.Value {
	v := d.value()
	for range d.Intn(5) {
		if depth > 0 {
			v.Kids = append(v.Kids, field([]string{"a", "b", "", "\xff"}[d.Intn(4)], d.tree(depth-1)))
		}
	}
	return v
}

// Pairs of trees that are one, that part in some fields, or in their shape, too.
func TestDrawnTrees(t *testing.T) {
	d := drawer{rand.New(rand.NewSource(181))}
	seen := [4]int{}
	for round := range 4000 {
		v := d.tree(5)
		l := row(v)
		lays(t, v, paths(l))
		for range 3 {
			f := l[d.Intn(len(l))]
			leads(t, v, f.path, f.v, f.names...)
			astray(t, v, append(slices.Clone(f.path), []int{-1, len(f.v.Kids)}[d.Intn(2)], 0)...)
		}
		other := copied(v)
		for range d.Intn(4) {
			changes()[d.Intn(len(changes()))](at(&other, l[d.Intn(len(l))].path))
		}
		if round%4 == 0 {
			turns()[d.Intn(len(turns()))](at(&other, l[d.Intn(len(l))].path))
		}
		want, is := differences(v, other)
		differs(t, v, other, want, is)
		seen[min(len(want), 2)]++
		if !is {
			seen[3]++
		}
		if t.Failed() {
			return
		}
	}
	for i, n := range seen {
		if n < 400 {
			t.Errorf("of the sort %d there were %d alone", i, n)
		}
	}
}

func TestPairsOfDrawnTrees(t *testing.T) {
	d := drawer{rand.New(rand.NewSource(182))}
	var l []api.Value
	for range 300 {
		l = append(l, d.tree(1))
	}
	for _, a := range l {
		for _, b := range l {
			want, is := differences(a, b)
			differs(t, a, b, want, is)
		}
	}
}

// Trees that are deep, and wide.

func TestDeepTrees(t *testing.T) {
	for _, depth := range []int{1, 2, 3, 200, 201, 1000, 1023, 1024, 1025} {
		v := nested(str("a"), depth)
		var want [][]int
		for n := range depth + 1 {
			want = append(want, make([]int, n))
		}
		lays(t, v, want)
		for _, p := range [][]int{want[0], want[1], want[depth/2], want[depth]} {
			f := v
			var names []string
			for range p {
				names = append(names, f.Kids[0].Name)
				f = f.Kids[0].Value
			}
			leads(t, v, p, f, names...)
			for i := range p {
				wrong := slices.Clone(p)
				wrong[i] = 1 - 2*(i%2)
				astray(t, v, wrong...)
			}
		}
		astray(t, v, make([]int, depth+1)...)
	}
}

func TestVeryDeepTrees(t *testing.T) {
	for _, depth := range []int{1<<15 + 1, 1<<16 - 1} {
		a, b := nested(str("a"), depth), nested(str("b"), depth)
		inmost := make([]int, depth)
		got, ok := path.Get(a, inmost)
		if names, is := path.Names(a, inmost); !ok || got.Text != "a" || !is || len(names) != depth || names[depth-1] != "d0" {
			t.Errorf("depth %d: %s, %v; %d Names, %v", depth, cut(got), ok, len(names), is)
		}
		if got, ok = path.Get(a, nil); !ok || !tree.Same(got, a) {
			t.Errorf("depth %d: Get tells another tree, %v", depth, ok)
		}
		astray(t, a, make([]int, depth+1)...)
		inmost[depth-1] = -1
		astray(t, a, inmost...)
		inmost[depth-1] = 0
		for range 2 {
			l, ok := path.Diff(a, b)
			if !ok || len(l) != 1 || !slices.Equal(l[0], inmost) {
				t.Errorf("depth %d: Diff: %s, %v", depth, cut(l), ok)
			}
			a, b = b, a
		}
		if l, ok := path.Diff(a, a); !ok || len(l) > 0 {
			t.Errorf("depth %d: Diff of one tree: %s, %v", depth, cut(l), ok)
		}
		for _, other := range []api.Value{nested(doc(field("x", null())), depth), nested(str("a"), depth-1)} {
			if l, ok := path.Diff(a, other); ok || len(l) > 0 {
				t.Errorf("depth %d: Diff of unlike shapes: %s, %v", depth, cut(l), ok)
			}
		}
	}
}

// No paths are laid for trees of unlike shapes: of these two there would be 2^31 numbers in them.
func TestDiffOfUnlikeShapesThatPartEverywhere(t *testing.T) {
	const depth = 1<<16 - 1
	a, b := str("a"), doc(field("x", null()))
	for range depth {
		a, b = api.Value{Kind: api.Document, Kids: []api.Field{field("d", a)}}, api.Value{Kind: api.Array, Kids: []api.Field{field("d", b)}}
	}
	for range 2 {
		if l, ok := path.Diff(a, b); ok || len(l) > 0 {
			t.Errorf("Diff: %s, %v", cut(l), ok)
		}
		a, b = b, a
	}
}

func TestWideTrees(t *testing.T) {
	const n = 200000
	kids := slices.Repeat([]api.Field{field("w", num(7))}, n)
	v := doc(field("a", array(kids...)), field("b", null()))
	all := path.All(v)
	if len(all) != n+3 || !slices.Equal(all[n+2], []int{1}) {
		t.Errorf("%d paths, %v the last one", len(all), all[len(all)-1])
	}
	for i := range n {
		if !slices.Equal(all[i+2], []int{0, i}) {
			t.Fatalf("path %d: %v", i+2, all[i+2])
		}
	}
	for _, i := range []int{n, n + 1, -1, -n, math.MaxInt, math.MinInt} {
		astray(t, v, 0, i)
	}
	for _, i := range []int{0, 1, n / 2, n - 1} {
		kids[i] = field("\xff", num(uint64(i)))
		leads(t, v, []int{0, i}, num(uint64(i)), "a", "\xff")
		kids[i] = field("w", num(7))
	}
	other := copied(v)
	for _, i := range []int{n - 1, n / 2, 1, 0} {
		other.Kids[0].Value.Kids[i].Value.Sub = 1
	}
	differs(t, v, other, [][]int{{0, 0}, {0, 1}, {0, n / 2}, {0, n - 1}}, true)
	other.Kids[0].Value.Kids[n-1].Name = "v"
	differs(t, v, other, nil, false)
	other.Kids[0].Value.Kids = other.Kids[0].Value.Kids[:n-1]
	differs(t, v, other, nil, false)
}

// R1, R2

// Paths of all lengths and sorts, at trees of all sorts: each call ends, and tells nothing beside a false.
func TestAnyArguments(t *testing.T) {
	numbers := append([]int{0, 1, 2, 3}, noPlaces...)
	for _, v := range trees() {
		for _, i := range numbers {
			for _, k := range numbers {
				for _, p := range [][]int{{i}, {i, k}, {0, i, k}, {1, i, k, i}, {0, 0, i, k}, {2, 1, i, k}} {
					want, ok := found{}, false
					for _, f := range row(v) {
						if slices.Equal(f.path, p) {
							want, ok = f, true
						}
					}
					if ok {
						leads(t, v, p, want.v, want.names...)
					} else {
						astray(t, v, p...)
					}
				}
			}
		}
	}
	long := make([]int, 1<<20)
	astray(t, small(), long...)
	astray(t, api.Value{}, long...)
}

// R4

// What is handed in is left as it is, its spare room too.
func TestArgumentsAreLeftAsTheyAre(t *testing.T) {
	for _, v := range trees() {
		v, other := roomy(v), roomy(v)
		other.Bits++
		before, otherBefore := picture(v), picture(other)
		for _, f := range row(v) {
			p := append(slices.Clone(f.path), 7, 8, 9)
			full := slices.Clone(p)
			path.Get(v, p[:len(f.path)])
			path.Names(v, p[:len(f.path)])
			path.Get(v, p)
			path.Names(v, p)
			if !slices.Equal(p, full) {
				t.Errorf("the path %v became %v", full, p)
			}
		}
		path.All(v)
		path.Diff(v, other)
		path.Diff(other, v)
		path.Diff(v, small())
		if picture(v) != before || picture(other) != otherBefore {
			t.Errorf("%s was changed", cut(v))
		}
	}
}

// listsOf are all lists of a tree, with their spare room.
func listsOf(v api.Value) (texts [][]byte, kids [][]api.Field) {
	for _, f := range row(v) {
		texts = append(texts, f.v.Bytes[:cap(f.v.Bytes)])
		kids = append(kids, f.v.Kids[:cap(f.v.Kids)])
	}
	return texts, kids
}

// sharesNone writes over each list, with a mark of its own, and asks whether all marks are still there.
func sharesNone[T any](t *testing.T, lists [][]T, mark func(e *T, n int), has func(e T, n int) bool) {
	t.Helper()
	for n, l := range lists {
		for i := range l {
			mark(&l[i], n)
		}
	}
	for n, l := range lists {
		for _, e := range l {
			if !has(e, n) {
				t.Errorf("list %d shares memory with another one", n)
				return
			}
		}
	}
}

// pathsShareNone takes lists of paths, with their spare room.
func pathsShareNone(t *testing.T, answers ...[][]int) {
	t.Helper()
	var all [][]int
	for _, l := range answers {
		for _, p := range l {
			all = append(all, p[:cap(p)])
		}
	}
	sharesNone(t, all, func(e *int, n int) { *e = -n - 7 }, func(e int, n int) bool { return e == -n-7 })
	sharesNone(t, answers, func(e *[]int, n int) { *e = []int{n} }, func(e []int, n int) bool { return slices.Equal(e, []int{n}) })
	for n, l := range answers {
		answers[n] = l[:cap(l)]
	}
	sharesNone(t, answers, func(e *[]int, n int) { *e = []int{n} }, func(e []int, n int) bool { return slices.Equal(e, []int{n}) })
}

// shared has the same lists at several places.
func shared() api.Value {
	b := []byte("abcdef")
	kids := []api.Field{field("x", api.Value{Kind: api.Binary, Bytes: b[:4]}), field("y", api.Value{Kind: api.Binary, Bytes: b[2:]}), field("z", doc())}
	return doc(field("a", array(kids...)), field("b", array(kids[:2]...)), field("c", doc(kids[1:]...)), field("d", api.Value{Kind: api.Binary, Bytes: b[:0]}), field("e", doc(kids[:0]...)))
}

// What Get answers is written over, its spare room too: neither the tree nor another answer has it.
func TestGetAnswersNewMemory(t *testing.T) {
	for _, v := range append(trees(), shared()) {
		for _, v := range []api.Value{v, roomy(v), emptied(v)} {
			before := picture(v)
			for _, f := range row(v) {
				want := picture(copied(f.v))
				one, _ := path.Get(v, f.path)
				other, _ := path.Get(v, f.path)
				if picture(copied(one)) != want {
					t.Errorf("Get(%s, %v): %s", cut(v), f.path, cut(one))
				}
				texts, kids := listsOf(one)
				moreTexts, moreKids := listsOf(other)
				sharesNone(t, append(texts, moreTexts...), func(e *byte, n int) { *e = byte(n) }, func(e byte, n int) bool { return e == byte(n) })
				sharesNone(t, append(kids, moreKids...), func(e *api.Field, n int) { *e = field(strconv.Itoa(n), num(1)) }, func(e api.Field, n int) bool { return e.Name == strconv.Itoa(n) })
			}
			if picture(v) != before {
				t.Errorf("%s shares memory with what Get answers", cut(v))
			}
		}
	}
}

// The spare room of what Get answers has nothing of the tree's.
func TestGetCopiesNoSpareRoom(t *testing.T) {
	v := roomy(doc(field("a", bin(1, 2, 3)), field("b", doc(field("c", bin())))))
	for _, p := range [][]int{nil, {0}, {1}, {1, 0}} {
		got, _ := path.Get(v, p)
		for _, f := range row(got) {
			for _, b := range f.v.Bytes[len(f.v.Bytes):cap(f.v.Bytes)] {
				if b != 0 {
					t.Errorf("path %v: a byte %d in the spare room", p, b)
				}
			}
			for _, kid := range f.v.Kids[len(f.v.Kids):cap(f.v.Kids)] {
				if kid.Name != "" || !tree.Same(kid.Value, api.Value{}) {
					t.Errorf("path %v: %s in the spare room", p, cut(kid))
				}
			}
		}
	}
}

// What Get answered stays as it is, whatever becomes of the tree.
func TestGetKeepsNothing(t *testing.T) {
	v := rich()
	want := row(rich())
	var got []api.Value
	for _, f := range want {
		one, _ := path.Get(v, f.path)
		got = append(got, one)
	}
	texts, kids := listsOf(v)
	sharesNone(t, texts, func(e *byte, n int) { *e = 0xee }, func(e byte, n int) bool { return e == 0xee })
	sharesNone(t, kids, func(e *api.Field, n int) { *e = api.Field{} }, func(e api.Field, n int) bool { return e.Name == "" })
	for i, f := range want {
		if !rowsAlike(row(got[i]), row(f.v)) {
			t.Errorf("the value of %v became %s", f.path, cut(got[i]))
		}
	}
}

func TestPathsAndNamesAreNewMemory(t *testing.T) {
	for _, v := range append(trees(), shared(), nested(rich(), 40)) {
		before := picture(v)
		other := copied(v)
		for _, f := range row(v) {
			at(&other, f.path).Sub++
		}
		otherBefore := picture(other)
		diff, _ := path.Diff(v, other)
		again, _ := path.Diff(v, other)
		pathsShareNone(t, path.All(v), path.All(v), diff, again)
		var names [][]string
		for _, f := range row(v) {
			p := append(slices.Clone(f.path), 0)[:len(f.path)]
			for range 2 {
				l, _ := path.Names(v, p)
				names = append(names, l[:cap(l)])
			}
		}
		sharesNone(t, names, func(e *string, n int) { *e = strconv.Itoa(n) }, func(e string, n int) bool { return e == strconv.Itoa(n) })
		if picture(v) != before || picture(other) != otherBefore {
			t.Errorf("%s shares memory with paths or Names", cut(v))
		}
		lays(t, v, paths(row(v)))
		differs(t, v, other, path.All(v), true)
	}
}

// R3, R5: what a refused call began is in no later answer.
func TestBehindARefusal(t *testing.T) {
	for range 3 {
		astray(t, small(), 0, 1, 0, 0)
		leads(t, small(), []int{0, 1, 0}, num(2), "a", "c", "0")
		differs(t, small(), rich(), nil, false)
		differs(t, small(), small(), nil, true)
		differs(t, num(1), num(2), [][]int{{}}, true)
		astray(t, api.Value{}, -1)
		leads(t, api.Value{}, nil, api.Value{})
		lays(t, doc(field("a", null())), [][]int{{}, {0}})
	}
}
