package fault_test

import (
	"fmt"
	"math"
	"math/big"
	"math/rand"
	"regexp"
	"slices"
	"strings"
	"testing"

	"propylon/api"
	"propylon/fault"
)

// named are the errors with their names, written out anew, so that a name in a wrong place is seen.
var named = []struct {
	e    api.Errno
	name string
}{
	{api.OK, "OK"}, {api.ErrArg, "EARG"}, {api.ErrShort, "ESHORT"}, {api.ErrForm, "EFORM"}, {api.ErrText, "ETEXT"}, {api.ErrKind, "EKIND"}, {api.ErrLen, "ELEN"},
	{api.ErrMore, "EMORE"}, {api.ErrDeep, "EDEEP"}, {api.ErrSize, "ESIZE"}, {api.ErrNum, "ENUM"}, {api.ErrWrap, "EWRAP"}, {api.ErrMap, "EMAP"},
}

// nameless are numbers of no error: below 0, beyond the last one, and such as have an error's number in their lowest bits.
var nameless = []api.Errno{
	math.MinInt, math.MinInt + 1, math.MinInt + 12, math.MinInt32, -1 << 32, -256, -244, -13, -12, -2, -1,
	13, 14, 15, 16, 127, 128, 255, 256, 257, 268, 1 << 16, 1<<16 + 1, math.MaxInt32, 1 << 32, 1<<32 + 1, 1<<32 + 12, 1 << 62, math.MaxInt - 1, math.MaxInt,
}

// places are numbers that At and a Path may have.
var places = []int{0, 1, 2, 4, 9, 10, 11, 19, 99, 100, 101, 255, 256, 999, 1000, 1001, 65535, 1234567890, 9876543210, math.MaxInt32, 1 << 32, 1000000000000000000, 999999999999999999, math.MaxInt - 7, math.MaxInt - 1, math.MaxInt}

// belows are numbers that neither may have.
var belows = []int{-1, -2, -9, -10, -100, math.MinInt32, -1 << 32, math.MinInt + 1, math.MinInt}

// noNumbers are no digits of a number: none, with noughts or signs ahead, too great, written otherwise, or with bytes that are no digits.
var noNumbers = []string{
	"", "00", "01", "000", "007", "010", "-0", "-00", "-1", "-9223372036854775808", "-9223372036854775807", "+0", "+1", "--1", "+-1", "-", "+", "1-", "1+", "0-0", "1e3", "1E3", "1.", ".1", "1.0", "0.0", "1,000", "1_0", "0_0", "_1", "1_", "0x0", "0x1", "0X1", "0b1", "0o7", "x", "a", "A", "1a", "a1", "1f", "nan", "NaN", "inf", "Inf",
	" ", " 0", "0 ", " 1", "1 ", "1 2", "\t1", "1\t", "1\n", "\n1", "1\r\n", "\n", "1\v", "\x00", "0\x00", "\x000", "1\x002", "\x01", "\x7f", "1:", ":1", ":", "1:1", "1;", ".", "'1'", `"1"`, "#1", "(1)", "~1", "~0", "%30", "*", "-1/0", "@", "@1", "1@", "1@1",
	"\x80", "\xb0", "\xb1", "1\xb9", "\xff", "1\xff", "\xff1", "\xc2\xb9", "\u0660", "\u0661", "1\u0662", "\u06f1", "\u0967", "\uff10", "\uff11", "\u00b2", "\u2460", "\u2081", "\u0031\u0301", "\U0001D7CE", "\U0001D7CF", "\xef\xbb\xbf1", "\u00a01", "1\u00a0", "\u20281", "\u2212\u0031",
	"9223372036854775808", "9223372036854775809", "9223372036854775810", "9223372036854775817", "9223372036854775818", "9223372036854775899", "9223372036854776000", "9223372036854780000", "9300000000000000000", "9999999999999999999", "10000000000000000000", "18446744073709551614", "18446744073709551615", "18446744073709551616", "18446744073709551617", "18446744073709551626", "27670116110564327424", "36893488147419103232", "36893488147419103233", "92233720368547758070", "92233720368547758080", "184467440737095516160", "340282366920938463463374607431768211456", "340282366920938463463374607431768211457",
	"09223372036854775807", "00000000000000000001", "09223372036854775808",
	strings.Repeat("9", 20), strings.Repeat("1", 20), strings.Repeat("9", 1000), "1" + strings.Repeat("0", 64), "1" + strings.Repeat("0", 1<<16), strings.Repeat("0", 1<<16), strings.Repeat("0", 1<<16) + "1", strings.Repeat("7", 1<<20), strings.Repeat("-", 1<<16), strings.Repeat("\xff", 1<<16),
}

// shape says by an expression, not by parts, which texts look like a Fault's; their numbers may be too great.
var shape = regexp.MustCompile(`\A(OK|EARG|ESHORT|EFORM|ETEXT|EKIND|ELEN|EMORE|EDEEP|ESIZE|ENUM|EWRAP|EMAP)@((?:0|[1-9][0-9]*)(?:/(?:0|[1-9][0-9]*))*)\z`)

func same(a, b api.Fault) bool {
	return a.Err == b.Err && a.At == b.At && slices.Equal(a.Path, b.Path)
}

func isName(s string) bool {
	for _, n := range named {
		if n.name == s {
			return true
		}
	}
	return false
}

// cut keeps what a test tells short.
func cut(s string) string {
	if len(s) > 120 {
		return s[:120] + fmt.Sprintf(".. (%d bytes)", len(s))
	}
	return s
}

func codes(t *testing.T, name string, want api.Errno) {
	t.Helper()
	if e, ok := fault.Code(name); e != want || !ok {
		t.Errorf("Code(%q): %d, %v, not %d, true", name, e, ok, want)
	}
}

// hasNoCode also holds R2: with false there is no number.
func hasNoCode(t *testing.T, name string) {
	t.Helper()
	if e, ok := fault.Code(name); e != 0 || ok {
		t.Errorf("Code(%q): %d, %v, not 0, false", cut(name), e, ok)
	}
}

func writes(t *testing.T, f api.Fault, want string) {
	t.Helper()
	if s := fault.Text(f); s != want {
		t.Errorf("Text(%v): %q, not %q", f, cut(s), cut(want))
	}
}

func reads(t *testing.T, s string, want api.Fault) {
	t.Helper()
	if f, ok := fault.Parse(s); !same(f, want) || !ok {
		t.Errorf("Parse(%q): %v, %v, not %v, true", cut(s), f, ok, want)
	}
}

// refuses also holds R2: with false there is a zero Fault.
func refuses(t *testing.T, s string) {
	t.Helper()
	if f, ok := fault.Parse(s); f.Err != 0 || f.At != 0 || len(f.Path) != 0 || ok {
		t.Errorf("Parse(%q): %v, %v, not zero, false", cut(s), f, ok)
	}
}

// wanted is the Fault of a text by its shape and by numbers without a bound; false if there is none.
func wanted(s string) (api.Fault, bool) {
	parts := shape.FindStringSubmatch(s)
	if parts == nil {
		return api.Fault{}, false
	}
	var numbers []int
	for _, digits := range strings.Split(parts[2], "/") {
		n, _ := new(big.Int).SetString(digits, 10)
		if n.Cmp(big.NewInt(math.MaxInt)) > 0 {
			return api.Fault{}, false
		}
		numbers = append(numbers, int(n.Int64()))
	}
	f := api.Fault{At: numbers[0], Path: numbers[1:]}
	for _, n := range named {
		if n.name == parts[1] {
			f.Err = n.e
		}
	}
	return f, true
}

// judges reads s or refuses it, as wanted says; what is read must have just the text s.
func judges(t *testing.T, s string) {
	t.Helper()
	f, ok := wanted(s)
	if !ok {
		refuses(t, s)
		return
	}
	reads(t, s, f)
	if got, _ := fault.Parse(s); fault.Text(got) != s {
		t.Errorf("%q is read as %v, whose text is %q", s, got, fault.Text(got))
	}
}

// spelled is a Fault's text by fmt.
func spelled(name string, at int, path []int) string {
	s := fmt.Sprintf("%s@%d", name, at)
	for _, n := range path {
		s += fmt.Sprintf("/%d", n)
	}
	return s
}

// ways are paths of each short length, with each of the places at each place.
func ways() [][]int {
	all := [][]int{nil, {}, {0, 0, 0}, {0, 1, 2, 3, 4, 5, 6, 7, 8, 9, 10}, {math.MaxInt, math.MaxInt, math.MaxInt}}
	for _, n := range places {
		all = append(all, []int{n}, []int{n, 0}, []int{0, n}, []int{n, 7, 7}, []int{7, n, 7}, []int{7, 7, n})
	}
	return all
}

// roomy answers the path with spare room behind it that is filled with more.
func roomy(path []int, more ...int) []int {
	return append(slices.Clip(slices.Clone(path)), more...)[:len(path)]
}

// spoil writes over a list and over its spare room.
func spoil(path []int) {
	path = path[:cap(path)]
	for i := range path {
		path[i] ^= 0x5A5A
	}
}

func one(c int) string {
	return string([]byte{byte(c)})
}

// P5.1: Name

func TestNameOfEachNumber(t *testing.T) {
	for i, n := range named {
		if int(n.e) != i {
			t.Fatalf("number %d is missing here", i)
		}
		if s := fault.Name(n.e); s != n.name {
			t.Errorf("Name(%d): %q, not %q", n.e, s, n.name)
		}
	}
}

func TestNameOfOtherNumbers(t *testing.T) {
	for _, e := range nameless {
		if s := fault.Name(e); s != "" {
			t.Errorf("Name(%d): %q", e, s)
		}
	}
	for e := api.Errno(13); e < 1<<17; e++ {
		if fault.Name(e) != "" || fault.Name(-e) != "" {
			t.Fatalf("Name(%d): %q, Name(%d): %q", e, fault.Name(e), -e, fault.Name(-e))
		}
	}
	for bit := range 64 {
		for _, n := range named {
			e := n.e ^ api.Errno(-1<<bit)
			if s := fault.Name(e); (e < 0 || e > 12) && s != "" {
				t.Errorf("Name(%d): %q", e, s)
			}
		}
	}
}

// P5.1: Code

func TestCodeOfEachName(t *testing.T) {
	for _, n := range named {
		codes(t, n.name, n.e)
		codes(t, string([]byte(n.name)), n.e)
		codes(t, fault.Name(n.e), n.e)
	}
}

func TestCodeOfOtherTexts(t *testing.T) {
	for _, s := range []string{
		"", " ", "\x00", "@", "E", "O", "K", "0", "1", "12", "13", "-1", "A", "Z", "ERR", "ERROR", "NONE", "OKAY", "OKOK", "KO", "EOK", "EARGS", "EARGEARG", "OKEARG", "EARGOK", "EARG,EMAP", "EOF", "ENOENT", "EINVAL", "EUTF", "EFOO",
		"ARG", "SHORT", "FORM", "TEXT", "KIND", "LEN", "MORE", "DEEP", "SIZE", "NUM", "WRAP", "MAP", "ErrArg", "ErrMap", "ERRARG", "api.OK", "api.ErrArg", "EAGR", "ELNE", "\u041e\u041a", "\uff2f\uff2b", "\xef\xbb\xbfOK", "O\u212a", "OK\u0301", "\xff", "\xcf\xcb", "OK@", "OK@0", "ELEN@4/0/2", strings.Repeat("E", 1<<16), "EMAP" + strings.Repeat("\x00", 1<<16),
	} {
		hasNoCode(t, s)
	}
}

// Small letters, one of them and all of them.
func TestCodeOfSmallLetters(t *testing.T) {
	for _, n := range named {
		hasNoCode(t, strings.ToLower(n.name))
		for i := range n.name {
			hasNoCode(t, n.name[:i]+strings.ToLower(n.name[i:i+1])+n.name[i+1:])
			hasNoCode(t, strings.ToLower(n.name[:i])+n.name[i:i+1]+strings.ToLower(n.name[i+1:]))
		}
	}
}

func TestCodeOfCutNames(t *testing.T) {
	for _, n := range named {
		for i := range n.name {
			hasNoCode(t, n.name[:i])
			hasNoCode(t, n.name[:i]+n.name[i+1:])
			hasNoCode(t, n.name[i+1:])
		}
	}
}

// Every byte at every place of every name, in the place of another one and beside it.
func TestCodeOfEveryByteAtEveryPlace(t *testing.T) {
	for _, n := range named {
		for c := range 256 {
			for i := range len(n.name) {
				if s := n.name[:i] + one(c) + n.name[i+1:]; !isName(s) {
					hasNoCode(t, s)
				}
				hasNoCode(t, n.name[:i]+one(c)+n.name[i:])
			}
			hasNoCode(t, n.name+one(c))
		}
	}
}

func TestCodeOfTwoNames(t *testing.T) {
	for _, a := range named {
		for _, b := range named {
			for _, between := range []string{"", " ", "\x00", ",", "|", "\n"} {
				hasNoCode(t, a.name+between+b.name)
			}
		}
	}
}

// P5.2: Text

func TestTextOfTheChapter(t *testing.T) {
	f := api.Fault{Err: api.ErrLen, At: 4, Path: []int{0, 2}}
	writes(t, f, "ELEN@4/0/2")
	reads(t, "ELEN@4/0/2", f)
}

// Both ways: each text is that of the Fault, and is read as it.
func TestTextAtEdges(t *testing.T) {
	for _, c := range []struct {
		f api.Fault
		s string
	}{
		{api.Fault{}, "OK@0"}, {api.Fault{Path: []int{}}, "OK@0"}, {api.Fault{Path: []int{0}}, "OK@0/0"}, {api.Fault{At: 7}, "OK@7"},
		{api.Fault{Err: api.ErrArg}, "EARG@0"}, {api.Fault{Err: api.ErrMap, At: 12}, "EMAP@12"}, {api.Fault{Err: api.ErrWrap, Path: []int{10}}, "EWRAP@0/10"},
		{api.Fault{Err: api.ErrShort, At: 9, Path: []int{10, 99, 100}}, "ESHORT@9/10/99/100"},
		{api.Fault{Err: api.ErrForm, At: math.MaxInt}, "EFORM@9223372036854775807"},
		{api.Fault{Err: api.ErrText, At: math.MaxInt - 1, Path: []int{math.MaxInt, 0, math.MaxInt - 7}}, "ETEXT@9223372036854775806/9223372036854775807/0/9223372036854775800"},
		{api.Fault{Err: api.ErrKind, Path: []int{0, 0, 0, 0}}, "EKIND@0/0/0/0/0"},
	} {
		writes(t, c.f, c.s)
		reads(t, c.s, c.f)
	}
}

func TestTextOfEachErrorPlaceAndPath(t *testing.T) {
	for _, n := range named {
		for _, at := range places {
			for _, path := range ways() {
				f, s := api.Fault{Err: n.e, At: at, Path: path}, spelled(n.name, at, path)
				writes(t, f, s)
				reads(t, s, f)
			}
		}
	}
}

func TestTextOfNoName(t *testing.T) {
	for _, e := range nameless {
		writes(t, api.Fault{Err: e}, "")
		writes(t, api.Fault{Err: e, At: 4, Path: []int{0, 2}}, "")
		writes(t, api.Fault{Err: e, At: -1, Path: []int{-1}}, "")
	}
}

func TestTextOfAtBelowNought(t *testing.T) {
	for _, n := range named {
		for _, at := range belows {
			writes(t, api.Fault{Err: n.e, At: at}, "")
			writes(t, api.Fault{Err: n.e, At: at, Path: []int{0, 2}}, "")
			writes(t, api.Fault{Err: n.e, At: at, Path: []int{at}}, "")
		}
	}
}

// One number below 0 at each place of paths of several lengths.
func TestTextOfAPathBelowNought(t *testing.T) {
	for _, n := range named {
		for _, length := range []int{1, 2, 3, 17} {
			for at := range length {
				for _, below := range belows {
					path := make([]int, length)
					path[at] = below
					writes(t, api.Fault{Err: n.e, At: 4, Path: path}, "")
				}
			}
		}
	}
}

// What stands in the spare room is not the Path's.
func TestTextEndsWithThePath(t *testing.T) {
	for _, path := range ways() {
		writes(t, api.Fault{Err: api.ErrNum, At: 3, Path: roomy(path, 5, -1)}, spelled("ENUM", 3, path))
	}
}

func TestTextOfLongPaths(t *testing.T) {
	for _, length := range []int{200, 1000, 1 << 16, 1<<16 + 1, 1 << 20} {
		path := make([]int, length)
		for i := range path {
			path[i] = i * i
		}
		var want strings.Builder
		want.WriteString("EDEEP@5")
		for _, n := range path {
			fmt.Fprintf(&want, "/%d", n)
		}
		f := api.Fault{Err: api.ErrDeep, At: 5, Path: path}
		if s := fault.Text(f); s != want.String() {
			t.Errorf("Text of a path of %d: another text, %d long", length, len(s))
		}
		if got, ok := fault.Parse(want.String()); !same(got, f) || !ok {
			t.Errorf("Parse of a path of %d: %d, %d, a path of %d, %v", length, got.Err, got.At, len(got.Path), ok)
		}
		for _, more := range []string{"/", "//1", "/01", "/-1", "/x", "@0", " ", "\x00"} {
			refuses(t, want.String()+more)
		}
		path[length-1] = -1
		if s := fault.Text(f); s != "" {
			t.Errorf("Text of a path of %d whose last one is below 0: %d long", length, len(s))
		}
	}
}

// P5.2: Parse

func TestParseOfNoNames(t *testing.T) {
	for _, s := range []string{"", "ok", "Ok", "EFOO", "E", "earg", " OK", "OK ", "EARG\x00", "ERRARG", "ErrArg", "0", "1", "EMAPS", "OKOK", "OK/0", "/", "\xff"} {
		for _, behind := range []string{"", "@", "@0", "@4/0/2", "/0", "@@0"} {
			refuses(t, s+behind)
		}
	}
	for _, n := range named {
		refuses(t, strings.ToLower(n.name)+"@0")
		refuses(t, n.name[1:]+"@0")
		refuses(t, n.name[:len(n.name)-1]+"@0")
		refuses(t, n.name+" @0")
		refuses(t, n.name+n.name+"@0")
	}
}

// Without `@`, or with more than one of them.
func TestParseOfWrongSigns(t *testing.T) {
	for _, n := range named {
		for _, behind := range []string{
			"", "0", "4", "/0", "/4/0", " 0", ":0", "#0", "\x000", "\uff200", "\xc00", "@", "@@", "@@0", "@0@", "@0@0", "@1@2", "@0/@", "@0/@1", "@0/1@", "@0/1@2", "@/", "@/0", "@/@", "@//", "@4/", "@4//", "@4//0", "@4/0/", "@4/0//", "@4/0//2", "@4/0/2/", "@4///", "/@0", "/@4/0", "@4/0@2", "@4\\0", "@4.0", "@4 /0", "@4/ 0", "@ 4", "@4 ", "@4/0 ", "@4\n", "@4/0\n", "@\n4", "@4\x00", "@4/0\x00", "@4,0",
		} {
			refuses(t, n.name+behind)
		}
		refuses(t, "@"+n.name+"@0")
		refuses(t, " "+n.name+"@0")
		refuses(t, "\x00"+n.name+"@0")
		refuses(t, "\n"+n.name+"@0")
		refuses(t, n.name+"@0"+n.name+"@0")
		refuses(t, n.name+"@"+n.name)
		refuses(t, "0@"+n.name)
	}
}

// In At's place, and at each place of a Path.
func TestParseOfNoNumbers(t *testing.T) {
	for _, d := range noNumbers {
		for _, name := range []string{"OK", "ELEN", "ESHORT"} {
			refuses(t, name+"@"+d)
			refuses(t, name+"@"+d+"/0")
			refuses(t, name+"@"+d+"/0/2")
			refuses(t, name+"@0/"+d)
			refuses(t, name+"@4/"+d+"/0/2")
			refuses(t, name+"@4/0/"+d+"/2")
			refuses(t, name+"@4/0/2/"+d)
		}
	}
}

func TestParseOfEachPlace(t *testing.T) {
	for _, n := range places {
		d := fmt.Sprint(n)
		reads(t, "ESIZE@"+d, api.Fault{Err: api.ErrSize, At: n})
		reads(t, "ESIZE@"+d+"/3", api.Fault{Err: api.ErrSize, At: n, Path: []int{3}})
		reads(t, "ESIZE@3/"+d, api.Fault{Err: api.ErrSize, At: 3, Path: []int{n}})
		for _, wrong := range []string{"0" + d, "00" + d, "-" + d, "+" + d, d + "-", " " + d, d + " ", d + "."} {
			refuses(t, "ESIZE@"+wrong)
			refuses(t, "ESIZE@3/"+wrong)
		}
	}
	for _, n := range belows {
		refuses(t, fmt.Sprintf("ESIZE@%d", n))
		refuses(t, fmt.Sprintf("ESIZE@3/%d", n))
		refuses(t, fmt.Sprintf("ESIZE@3/%d/3", n))
	}
}

// The numbers around the greatest one, around where 64 bits begin again, and ten times as many.
func TestParseOfNumbersAtBounds(t *testing.T) {
	for _, bit := range []uint{8, 16, 31, 32, 53, 62, 63, 64, 65, 66, 67, 128} {
		for _, times := range []int64{1, 2, 3, 5, 9, 10, 11, 100} {
			middle := new(big.Int).Mul(new(big.Int).Lsh(big.NewInt(1), bit), big.NewInt(times))
			for d := int64(-40); d <= 40; d++ {
				n := new(big.Int).Add(middle, big.NewInt(d)).String()
				judges(t, "EMORE@"+n)
				judges(t, "EMORE@0/"+n)
				judges(t, "EMORE@0/"+n+"/0")
			}
		}
	}
}

func TestParseOfEveryByteAtEveryPlace(t *testing.T) {
	for _, good := range []string{"OK@0", "OK@10", "ELEN@4/0/2", "ENUM@0/0", "EMAP@907/81/0/6", "EARG@9223372036854775807/9223372036854775807"} {
		judges(t, good)
		for at := range len(good) {
			judges(t, good[:at]+good[at+1:])
			for c := range 256 {
				judges(t, good[:at]+one(c)+good[at+1:])
				judges(t, good[:at]+one(c)+good[at:])
			}
		}
		for c := range 256 {
			judges(t, good+one(c))
			judges(t, good+"/"+one(c))
		}
	}
}

// All texts of up to seven of some signs behind a name.
func TestParseOfEveryTextOfSome(t *testing.T) {
	texts := []string{""}
	for range 7 {
		var longer []string
		for _, s := range texts {
			judges(t, "OK"+s)
			judges(t, "ENUM@"+s)
			for _, c := range "@/019-" {
				longer = append(longer, s+string(c))
			}
		}
		texts = longer
	}
}

// All short texts of any bytes: no Fault's text is that short.
func TestParseOfShortTexts(t *testing.T) {
	for high := range 256 {
		refuses(t, one(high))
		refuses(t, "OK"+one(high))
		for low := range 256 {
			refuses(t, one(high)+one(low))
			judges(t, "OK"+one(high)+one(low))
			judges(t, "OK@"+one(high)+one(low))
		}
	}
}

// There and back: a Text that is not empty is read as the same Fault, and only a Fault that may be has one.
func TestParseOfTextIsTheFault(t *testing.T) {
	rnd := rand.New(rand.NewSource(5))
	number := func() int {
		n := int(rnd.Uint64() >> rnd.Intn(64))
		if rnd.Intn(20) > 0 {
			n &= math.MaxInt
		}
		return n
	}
	for range 50000 {
		f := api.Fault{Err: api.Errno(rnd.Intn(17) - 2), At: number()}
		for range rnd.Intn(8) {
			f.Path = append(f.Path, number())
		}
		may := f.Err >= 0 && f.Err <= 12 && f.At >= 0 && !slices.ContainsFunc(f.Path, func(n int) bool { return n < 0 })
		s := fault.Text(f)
		if (s != "") != may {
			t.Fatalf("Text(%v): %q", f, s)
		}
		if !may {
			continue
		}
		writes(t, f, spelled(named[f.Err].name, f.At, f.Path))
		reads(t, s, f)
		judges(t, s)
	}
}

// P5.2: Within

func TestWithin(t *testing.T) {
	for _, c := range []struct {
		at, n int
		want  bool
	}{
		{-1, 0, false}, {0, 0, true}, {1, 0, false}, {math.MaxInt, 0, false}, {math.MinInt, 0, false},
		{-1, 5, false}, {0, 5, true}, {1, 5, true}, {4, 5, true}, {5, 5, true}, {6, 5, false}, {math.MinInt, 5, false}, {math.MaxInt, 5, false}, {1 << 32, 5, false}, {-1<<32 + 3, 5, false},
		{-2, -1, false}, {-1, -1, false}, {0, -1, false}, {1, -1, false}, {math.MinInt, -1, false}, {math.MaxInt, -1, false}, {-3, -2, false},
		{-1, math.MinInt, false}, {0, math.MinInt, false}, {math.MinInt, math.MinInt, false}, {math.MaxInt, math.MinInt, false},
		{-1, math.MaxInt, false}, {0, math.MaxInt, true}, {math.MaxInt - 1, math.MaxInt, true}, {math.MaxInt, math.MaxInt, true}, {math.MinInt, math.MaxInt, false},
		{math.MaxInt, math.MaxInt - 1, false}, {math.MaxInt - 1, math.MaxInt - 1, true}, {1 << 32, 1 << 32, true}, {1<<32 + 1, 1 << 32, false},
	} {
		for _, f := range []api.Fault{{At: c.at}, {Err: api.ErrForm, At: c.at}, {Err: -1, At: c.at, Path: []int{-1}}, {Err: 99, At: c.at, Path: []int{c.n}}} {
			if got := fault.Within(f, c.n); got != c.want {
				t.Errorf("Within(%v, %d): %v", f, c.n, got)
			}
		}
	}
}

func TestWithinAroundEachBound(t *testing.T) {
	for n := -20; n <= 20; n++ {
		for at := -25; at <= 25; at++ {
			want := false
			for i := 0; i <= n; i++ {
				want = want || i == at
			}
			if got := fault.Within(api.Fault{At: at}, n); got != want {
				t.Errorf("Within(At %d, %d): %v", at, n, got)
			}
		}
	}
}

// R4

func TestPathIsLeftAsItIs(t *testing.T) {
	for _, path := range append(ways(), []int{-1}, []int{0, math.MinInt, 3}) {
		p := roomy(path, 11, 22, 33)
		all := slices.Clone(p[:cap(p)])
		f := api.Fault{Err: api.ErrLen, At: 4, Path: p}
		s := fault.Text(f)
		fault.Within(f, 9)
		if !slices.Equal(p[:cap(p)], all) {
			t.Errorf("the path %v became %v", all, p[:cap(p)])
		}
		before := strings.Clone(s)
		spoil(p)
		if s != before {
			t.Errorf("Text(%v) kept what was handed in: %q", path, s)
		}
	}
}

// A Path that is written over, its spare room too, is seen in no other answer and in no text.
func TestParseAnswersNewMemory(t *testing.T) {
	for _, path := range append(ways(), []int{1, 2, 3, 4, 5}, make([]int, 100)) {
		want := spelled("ELEN", 4, path)
		s := strings.Clone(want)
		first, _ := fault.Parse(s)
		second, _ := fault.Parse(s)
		kept := slices.Clone(second.Path[:cap(second.Path)])
		spoil(first.Path)
		if !slices.Equal(second.Path, path) || !slices.Equal(second.Path[:cap(second.Path)], kept) {
			t.Errorf("two answers of Parse(%q) share memory", cut(want))
		}
		if s != want {
			t.Errorf("the text %q became %q", cut(want), cut(s))
		}
		reads(t, want, api.Fault{Err: api.ErrLen, At: 4, Path: path})
	}
}

// R5: what a refused call began is in no later answer.
func TestParseBehindARefusal(t *testing.T) {
	for _, wrong := range []string{"EMAP@9/8/7/x", "EMAP@9/8/", "EMAP@", "EMAP", "x"} {
		refuses(t, wrong)
		reads(t, "OK@0", api.Fault{})
		reads(t, "ELEN@4/0/2", api.Fault{Err: api.ErrLen, At: 4, Path: []int{0, 2}})
		writes(t, api.Fault{}, "OK@0")
	}
}
