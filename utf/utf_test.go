package utf_test

import (
	"bytes"
	"math"
	"math/rand"
	"slices"
	"strings"
	"testing"
	"unicode/utf8"

	"propylon/api"
	"propylon/utf"
)

// edges are characters at the bounds of how many bytes there are, and of the gap, each with its bytes.
var edges = []struct {
	r int
	b string
}{
	{0, "\x00"}, {1, "\x01"}, {'a', "a"}, {126, "\x7e"}, {127, "\x7f"},
	{128, "\xc2\x80"}, {129, "\xc2\x81"}, {2046, "\xdf\xbe"}, {2047, "\xdf\xbf"},
	{2048, "\xe0\xa0\x80"}, {2049, "\xe0\xa0\x81"}, {4095, "\xe0\xbf\xbf"}, {4096, "\xe1\x80\x80"}, {0x20AC, "\xe2\x82\xac"},
	{53247, "\xec\xbf\xbf"}, {53248, "\xed\x80\x80"}, {55294, "\xed\x9f\xbe"}, {55295, "\xed\x9f\xbf"},
	{57344, "\xee\x80\x80"}, {57345, "\xee\x80\x81"}, {65533, "\xef\xbf\xbd"}, {65534, "\xef\xbf\xbe"}, {65535, "\xef\xbf\xbf"},
	{65536, "\xf0\x90\x80\x80"}, {65537, "\xf0\x90\x80\x81"}, {0x1F600, "\xf0\x9f\x98\x80"}, {262143, "\xf0\xbf\xbf\xbf"}, {262144, "\xf1\x80\x80\x80"},
	{1048575, "\xf3\xbf\xbf\xbf"}, {1048576, "\xf4\x80\x80\x80"}, {1114110, "\xf4\x8f\xbf\xbe"}, {1114111, "\xf4\x8f\xbf\xbf"},
}

// noRunes are numbers that are no character.
var noRunes = []int{
	math.MinInt, math.MinInt + 'a', -1 << 32, -1<<32 + 'a', -1114112, -65536, -256, -128, -2, -1,
	55296, 55297, 56319, 56320, 57342, 57343,
	1114112, 1114113, 1114111 + 65536, 2097151, 2097152, math.MaxInt32, 1 << 32, 1<<32 + 'a', math.MaxInt - 1, math.MaxInt,
}

// broken are bytes at whose front no character begins.
var broken = []string{
	"",
	"\x80", "\x81", "\x9f", "\xa0", "\xbf", "\x80\x80", "\xbf\xbf\xbf\xbf", // none of them is a first byte
	"\xc0\x80", "\xc0\xaf", "\xc0\xbf", "\xc1\x80", "\xc1\xbf", // more bytes than the fewest: two for one
	"\xe0\x80\x80", "\xe0\x80\xaf", "\xe0\x81\xbf", "\xe0\x82\x80", "\xe0\x9f\x80", "\xe0\x9f\xbf", // three for one or two
	"\xf0\x80\x80\x80", "\xf0\x80\x81\xbf", "\xf0\x82\x82\xac", "\xf0\x8d\xa0\x80", "\xf0\x8f\x80\x80", "\xf0\x8f\xbf\xbf", // four for fewer
	"\xed\xa0\x80", "\xed\xa0\xbd", "\xed\xaf\xbf", "\xed\xb0\x80", "\xed\xbf\xbf", "\xed\xa0\xbd\xed\xb8\x80", // the gap, also two of it in a row
	"\xf4\x90\x80\x80", "\xf4\xbf\xbf\xbf", "\xf5\x80\x80\x80", "\xf6\xbf\xbf\xbf", "\xf7\xbf\xbf\xbf", // past the last one
	"\xf8\x88\x80\x80\x80", "\xfb\xbf\xbf\xbf\xbf", "\xfc\x84\x80\x80\x80\x80", "\xfd\xbf\xbf\xbf\xbf\xbf", "\xfe", "\xff", "\xfe\xff", "\xff\xbf\xbf\xbf",
	"\xc2", "\xdf", "\xe0", "\xe0\xa0", "\xe1\x80", "\xed\x9f", "\xef\xbf", "\xf0", "\xf0\x90", "\xf0\x90\x80", "\xf1\x80\x80", "\xf4\x8f\xbf", // cut short
	"\xc2a", "\xc2\x00", "\xc2\x7f", "\xc2\xc0", "\xdf\xc0", "\xc2\xc2\x80", "\xe0a\x80", "\xe0\xa0\x7f", "\xe0\xa0\xc0", "\xe1\x7f\x80", "\xe1\xc0\x80", "\xe1\x80\x00", "\xed\x7f\x80", "\xee\x80\xff",
	"\xf0\x90a\x80", "\xf0\x90\xc0\x80", "\xf0\x90\x80\x7f", "\xf0\x90\x80\xc0", "\xf0\xc0\x80\x80", "\xf1\x7f\x80\x80", "\xf1\xc0\x80\x80", "\xf1\x80\x7f\x80", "\xf1\x80\x80\xff", "\xf3\x80\x80\x00", "\xf4\x7f\x80\x80", "\xf4\x80\x80\xc0",
}

// model says by the library which character begins at the front of b.
func model(b []byte) (r, n int) {
	x, size := utf8.DecodeRune(b)
	if x == utf8.RuneError && size < 2 {
		return 0, 0
	}
	return int(x), size
}

func tells(t *testing.T, b []byte, at, r, n int) {
	t.Helper()
	if gotR, gotN := utf.Rune(b, at); gotR != r || gotN != n {
		t.Errorf("Rune(%x, %d): %d, %d, not %d, %d", b, at, gotR, gotN, r, n)
	}
}

func checks(t *testing.T, b []byte, end, count int) {
	t.Helper()
	if got, ok := utf.Check(b); got != end || ok != (end == len(b)) {
		t.Errorf("Check(%x): %d, %v, not %d, %v", b, got, ok, end, end == len(b))
	}
	if got := utf.Count(b); got != count {
		t.Errorf("Count(%x): %d, not %d", b, got, count)
	}
}

func ctext(t *testing.T, b string, at int, text string, next int, err api.Errno) {
	t.Helper()
	if gotText, gotNext, gotErr := utf.CText([]byte(b), at); gotText != text || gotNext != next || gotErr != err {
		t.Errorf("CText(%q, %d): %q, %d, %d, not %q, %d, %d", b, at, gotText, gotNext, gotErr, text, next, err)
	}
}

// roomy answers the bytes with spare room behind them that is filled with more.
func roomy(b, more string) []byte {
	return []byte(b + more)[:len(b)]
}

// spoil writes over a list and over its spare room.
func spoil(b []byte) {
	b = b[:cap(b)]
	for i := range b {
		b[i] ^= 0xA5
	}
}

// P2.1: Rune

func TestRuneAtEdges(t *testing.T) {
	for _, e := range edges {
		tells(t, []byte(e.b), 0, e.r, len(e.b))
		for _, behind := range []string{"\x00", "z", "\x80", "\xbf", "\xc2\x80", "\xff"} {
			tells(t, []byte(e.b+behind), 0, e.r, len(e.b))
		}
		for _, ahead := range []string{"\x00", "z", "\x80", "\xe2\x82\xac", "\xf0", "\xff"} {
			tells(t, []byte(ahead+e.b), len(ahead), e.r, len(e.b))
		}
	}
}

func TestRuneInTheMiddleOfACharacter(t *testing.T) {
	for _, e := range edges {
		for at := 1; at < len(e.b); at++ {
			tells(t, []byte(e.b), at, 0, 0)
			tells(t, []byte(e.b+"z"), at, 0, 0)
		}
	}
}

func TestRuneOfWhatIsNone(t *testing.T) {
	for _, b := range broken {
		tells(t, []byte(b), 0, 0, 0)
		tells(t, []byte("z"+b), 1, 0, 0)
		tells(t, []byte("\xe2"+b), 1, 0, 0)
	}
}

// The bytes that are missing stand in the spare room: they are not b's.
func TestRuneCutShort(t *testing.T) {
	for _, e := range edges {
		for n := range len(e.b) {
			tells(t, []byte(e.b[:n]), 0, 0, 0)
			tells(t, roomy(e.b[:n], e.b[n:]), 0, 0, 0)
			tells(t, roomy("z"+e.b[:n], e.b[n:]), 1, 0, 0)
		}
	}
}

func TestRuneAtNoPlace(t *testing.T) {
	for _, b := range []string{"", "a", "ab", "\xe2\x82\xac", "ab\xff"} {
		for _, at := range []int{math.MinInt, math.MinInt + 1, -1 << 32, -len(b) - 1, -2, -1, len(b), len(b) + 1, 1 << 32, math.MaxInt - 1, math.MaxInt} {
			tells(t, roomy(b, "zzzz"), at, 0, 0)
		}
	}
	for _, at := range []int{math.MinInt, -1, 0, 1, math.MaxInt} {
		tells(t, nil, at, 0, 0)
	}
}

// All rows of up to three bytes, held against the library.
func TestRuneOfAllShortRows(t *testing.T) {
	for v := range 1 << 24 {
		b := [3]byte{byte(v >> 16), byte(v >> 8), byte(v)}
		wantR, wantN := model(b[:])
		if r, n := utf.Rune(b[:], 0); r != wantR || n != wantN {
			t.Fatalf("Rune(%x, 0): %d, %d, not %d, %d", b, r, n, wantR, wantN)
		}
	}
	for v := range 1 << 16 {
		b := []byte{byte(v >> 8), byte(v)}
		for n := range 3 {
			wantR, wantN := model(b[:n])
			tells(t, b[:n], 0, wantR, wantN)
		}
	}
}

// All first and second bytes, with bytes at every bound behind them.
func TestRuneOfRowsOfFour(t *testing.T) {
	bounds := []byte{0x00, 0x7F, 0x80, 0x81, 0x8F, 0x90, 0x9F, 0xA0, 0xBF, 0xC0, 0xFF}
	for v := range 1 << 16 {
		for _, third := range bounds {
			for _, fourth := range bounds {
				b := [5]byte{byte(v >> 8), byte(v), third, fourth, 0x80}
				wantR, wantN := model(b[:])
				if r, n := utf.Rune(b[:], 0); r != wantR || n != wantN {
					t.Fatalf("Rune(%x, 0): %d, %d, not %d, %d", b, r, n, wantR, wantN)
				}
			}
		}
	}
}

// P2.1: Put

func TestPutAtEdges(t *testing.T) {
	for _, e := range edges {
		if b, ok := utf.Put(e.r); string(b) != e.b || !ok {
			t.Errorf("Put(%d): %x, %v, not %x", e.r, b, ok, e.b)
		}
	}
}

func TestPutOfWhatIsNone(t *testing.T) {
	for _, r := range noRunes {
		if b, ok := utf.Put(r); len(b) != 0 || ok {
			t.Errorf("Put(%d): %x, %v", r, b, ok)
		}
	}
}

func TestPutOfEveryNumber(t *testing.T) {
	for r := -70000; r <= 1200000; r++ {
		is := 0 <= r && r <= 55295 || 57344 <= r && r <= 1114111
		want := ""
		if is {
			want = string(rune(r))
		}
		b, ok := utf.Put(r)
		if string(b) != want || ok != is {
			t.Fatalf("Put(%d): %x, %v, not %x, %v", r, b, ok, want, is)
		}
	}
}

// P2.1: Check and Count

func TestCheckOfTheChapter(t *testing.T) {
	checks(t, []byte{0x61, 0xFF}, 1, 1)
}

func TestCheckOfWhatIsWhole(t *testing.T) {
	checks(t, nil, 0, 0)
	checks(t, []byte{}, 0, 0)
	all, n := "", 0
	for _, e := range edges {
		checks(t, []byte(e.b), len(e.b), 1)
		all, n = all+e.b, n+1
		checks(t, []byte(all), len(all), n)
	}
	for _, e := range edges {
		checks(t, []byte(strings.Repeat(e.b, 1000)), 1000*len(e.b), 1000)
	}
}

func TestCheckStopsAtTheFirstPlace(t *testing.T) {
	for _, b := range broken[1:] {
		checks(t, []byte(b), 0, 0)
		checks(t, []byte(b+b), 0, 0)
		checks(t, []byte(b+"z"), 0, 0)
		checks(t, []byte("z"+b), 1, 1)
		checks(t, []byte("\x00\xf0\x9f\x98\x80\xe2\x82\xac"+b+"zz\xff"), 8, 3)
	}
}

func TestCheckOfWhatIsCutShort(t *testing.T) {
	for _, e := range edges {
		for n := 1; n < len(e.b); n++ {
			checks(t, roomy("ab"+e.b[:n], e.b[n:]), 2, 2)
			checks(t, []byte("ab"+e.b[:n]+"c"), 2, 2)
			checks(t, []byte("ab"+e.b[:n]+e.b), 2, 2)
		}
	}
}

// Rows of characters with wrong bytes among them, held against the library.
func TestCheckOfRows(t *testing.T) {
	rnd := rand.New(rand.NewSource(21))
	for range 20000 {
		b := row(rnd)
		end, count := 0, 0
		for end < len(b) {
			_, n := model(b[end:])
			if n == 0 {
				break
			}
			end, count = end+n, count+1
		}
		checks(t, b, end, count)
	}
}

func row(rnd *rand.Rand) []byte {
	var b []byte
	for range rnd.Intn(12) {
		switch rnd.Intn(12) {
		case 0:
			b = append(b, byte(rnd.Intn(256)))
		case 1:
			b = append(b, broken[rnd.Intn(len(broken))]...)
		case 2:
			b = append(b, 0)
		default:
			b = append(b, edges[rnd.Intn(len(edges))].b...)
		}
	}
	return b
}

// P2.2

func TestCTextOfTheChapter(t *testing.T) {
	ctext(t, "a\x00b", 0, "a", 2, api.OK)
}

func TestCText(t *testing.T) {
	ctext(t, "\x00", 0, "", 1, api.OK)
	ctext(t, "\x00\x00", 0, "", 1, api.OK)
	ctext(t, "\x00\x00", 1, "", 2, api.OK)
	ctext(t, "a\x00b", 1, "", 2, api.OK)
	ctext(t, "abc\x00", 0, "abc", 4, api.OK)
	ctext(t, "abc\x00", 2, "c", 4, api.OK)
	ctext(t, "abc\x00", 3, "", 4, api.OK)
	ctext(t, "\xe2\x82\xac\x00\xff", 0, "\u20ac", 4, api.OK)
	ctext(t, "\xffab\x00\xff\x00", 1, "ab", 4, api.OK)
	ctext(t, "\x01\x7f\x00", 0, "\x01\x7f", 3, api.OK)
	for _, e := range edges[1:] {
		ctext(t, e.b+"\x00", 0, e.b, len(e.b)+1, api.OK)
		ctext(t, "\xff\x00"+e.b+e.b+"\x00\xff", 2, e.b+e.b, 2*len(e.b)+3, api.OK)
	}
}

func TestCTextAtNoPlace(t *testing.T) {
	for _, b := range []string{"", "a", "a\x00", "\x00", "\xff", "\xff\x00", "ab\x00cd\x00"} {
		for _, at := range []int{math.MinInt, math.MinInt + 1, -1 << 32, -len(b), -2, -1, len(b) + 1, len(b) + 2, 1 << 32, math.MaxInt - 1, math.MaxInt} {
			if at != 0 {
				ctext(t, b, at, "", 0, api.ErrArg)
			}
		}
	}
	if s, next, err := utf.CText(nil, 1); s != "" || next != 0 || err != api.ErrArg {
		t.Errorf("CText(nil, 1): %q, %d, %d", s, next, err)
	}
}

func TestCTextWithoutAnEnd(t *testing.T) {
	for _, b := range []string{"", "a", "abc", "\xff", "a\xff", "\xe2\x82", "a\x00b", "a\x00\xff", "\x00"} {
		ctext(t, b, len(b), "", 0, api.ErrShort)
		for at := strings.LastIndexByte(b, 0) + 1; at < len(b); at++ {
			ctext(t, b, at, "", 0, api.ErrShort)
		}
	}
	if s, next, err := utf.CText(nil, 0); s != "" || next != 0 || err != api.ErrShort {
		t.Errorf("CText(nil, 0): %q, %d, %d", s, next, err)
	}
	// A byte 0 in the spare room is none of b's; nor does one ahead of at end the text.
	for _, b := range []string{"", "a", "\x00a", "\xff"} {
		if s, next, err := utf.CText(roomy(b, "\x00\x00"), len(b)); s != "" || next != 0 || err != api.ErrShort {
			t.Errorf("CText(%q, %d): %q, %d, %d", b, len(b), s, next, err)
		}
	}
}

func TestCTextOfWhatIsNotWhole(t *testing.T) {
	for _, b := range broken[1:] {
		if strings.Contains(b, "\x00") {
			continue
		}
		ctext(t, b+"\x00", 0, "", 0, api.ErrText)
		ctext(t, "z"+b+"\x00", 0, "", 0, api.ErrText)
		ctext(t, "z"+b+"\x00zz\x00", 1, "", 0, api.ErrText)
		ctext(t, "z"+b+"zz\x00", 0, "", 0, api.ErrText)
		ctext(t, b, 0, "", 0, api.ErrShort)
	}
	ctext(t, "\xe2\x82\xac\x00", 1, "", 0, api.ErrText)
	ctext(t, "\xe2\x82\x00\xac\x00", 0, "", 0, api.ErrText)
}

// Every place of rows, held against the library.
func TestCTextOfRows(t *testing.T) {
	rnd := rand.New(rand.NewSource(22))
	for range 3000 {
		b := row(rnd)
		for at := -1; at <= len(b)+1; at++ {
			text, next, err := modelCText(b, at)
			ctext(t, string(b), at, text, next, err)
		}
	}
}

func modelCText(b []byte, at int) (string, int, api.Errno) {
	if at < 0 || at > len(b) {
		return "", 0, api.ErrArg
	}
	text, _, ended := strings.Cut(string(b[at:]), "\x00")
	if !ended {
		return "", 0, api.ErrShort
	}
	if !utf8.ValidString(text) {
		return "", 0, api.ErrText
	}
	return text, at + len(text) + 1, api.OK
}

// P2.3

func TestEachCharacterComesBack(t *testing.T) {
	for r := range 1114112 {
		if 55296 <= r && r <= 57343 {
			continue
		}
		b, _ := utf.Put(r)
		if got, n := utf.Rune(b, 0); got != r || n != len(b) {
			t.Fatalf("Rune of Put(%d): %d, %d", r, got, n)
		}
		if end, ok := utf.Check(b); end != len(b) || !ok || utf.Count(b) != 1 {
			t.Fatalf("Check of Put(%d): %d, %v, Count %d", r, end, ok, utf.Count(b))
		}
	}
}

func TestRowsComeBack(t *testing.T) {
	rnd := rand.New(rand.NewSource(23))
	for range 3000 {
		var put []int
		var b []byte
		for range rnd.Intn(30) {
			r := edges[rnd.Intn(len(edges))].r
			if rnd.Intn(2) == 0 {
				r = rnd.Intn(55296) >> rnd.Intn(16)
			}
			more, ok := utf.Put(r)
			if !ok {
				t.Fatalf("Put(%d) is refused", r)
			}
			put, b = append(put, r), append(b, more...)
		}
		checks(t, b, len(b), len(put))
		if got := runes(b); !slices.Equal(got, put) {
			t.Errorf("%d are told as %d", put, got)
		}
	}
}

func runes(b []byte) []int {
	var all []int
	for at := 0; at < len(b); {
		r, n := utf.Rune(b, at)
		if n == 0 {
			return all
		}
		all, at = append(all, r), at+n
	}
	return all
}

// R4

func TestNothingIsChanged(t *testing.T) {
	for _, s := range []string{"", "a\x00b", "ab", "a\xff\x00", "\xe2\x82\xac\x00", "\xf0\x90\x80", "\xc2"} {
		b := roomy(s, "\xee\x00\xee\x80")
		was := bytes.Clone(b[:cap(b)])
		for at := -1; at <= len(b)+1; at++ {
			utf.Rune(b, at)
			utf.CText(b, at)
		}
		utf.Check(b)
		utf.Count(b)
		if !bytes.Equal(b[:cap(b)], was) {
			t.Errorf("%x, not %x", b[:cap(b)], was)
		}
	}
}

func TestCTextKeepsNothing(t *testing.T) {
	b := roomy("a\u20ac\x00z", "zz")
	text, _, _ := utf.CText(b, 0)
	spoil(b)
	if text != "a\u20ac" {
		t.Errorf("the text is %q", text)
	}
}

func TestPutsShareNothing(t *testing.T) {
	for _, e := range edges {
		first, _ := utf.Put(e.r)
		second, _ := utf.Put(e.r)
		spoil(first)
		third, _ := utf.Put(e.r)
		if string(second) != e.b || string(third) != e.b {
			t.Errorf("Put(%d): %x and %x", e.r, second, third)
		}
	}
}
