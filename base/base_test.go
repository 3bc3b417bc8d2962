package base_test

import (
	"bytes"
	"encoding/base64"
	"math/rand"
	"strings"
	"testing"

	"propylon/base"
)

// alphabet is written out anew, so that a sign in a wrong place is seen.
const alphabet = "ABCDEFGHIJKLMNOPQRSTUVWXYZ" + "abcdefghijklmnopqrstuvwxyz" + "0123456789" + "+/"

// edges are rows of bytes of each number left over, of bits at the bounds of the signs, each row with its text.
var edges = []struct {
	b string
	s string
}{
	{"", ""},
	{"f", "Zg=="}, {"fo", "Zm8="}, {"foo", "Zm9v"}, {"foob", "Zm9vYg=="}, {"fooba", "Zm9vYmE="}, {"foobar", "Zm9vYmFy"},
	{"\x00", "AA=="}, {"\x00\x00", "AAA="}, {"\x00\x00\x00", "AAAA"}, {"\x00\x00\x00\x00", "AAAAAA=="},
	{"\xff", "/w=="}, {"\xff\xff", "//8="}, {"\xff\xff\xff", "////"}, {"\xff\xff\xff\xff", "/////w=="},
	{"\x01", "AQ=="}, {"\x03", "Aw=="}, {"\x04", "BA=="}, {"\x7f", "fw=="}, {"\x80", "gA=="}, {"\xfc", "/A=="},
	{"\x00\x01", "AAE="}, {"\x00\x0f", "AA8="}, {"\x00\x10", "ABA="}, {"\x00\xff", "AP8="}, {"\xff\x00", "/wA="}, {"\x0f\xf0", "D/A="}, {"\xfb\xf0", "+/A="},
	{"\x00\x00\x01", "AAAB"}, {"\x00\x00\x3f", "AAA/"}, {"\x00\x00\x40", "AABA"}, {"\x00\x00\xff", "AAD/"}, {"\x00\xff\x00", "AP8A"}, {"\xff\x00\x00", "/wAA"}, {"\xff\x00\xff", "/wD/"}, {"\xff\xff\xfe", "///+"},
	{"\x04\x20\x41", "BCBB"}, {"\x14\xfb\x9c\x03\xd9\x7e", "FPucA9l+"}, {"\x14\xfb\x9c\x03\xd9", "FPucA9k="}, {"\x14\xfb\x9c\x03", "FPucAw=="},
}

// strangers are bytes that are no signs: the signs' neighbours, signs of other alphabets, those that a looser reader would pass over, and those that differ from a sign by their highest bit.
var strangers = []byte{
	'@', '[', '`', '{', '.', ':', '*', ',', '-', '_', '~', '!', '"', '$', '%', '&', '\'', '\\', '|', '}', ']', '^', ';', '<', '>', '?', '#', '(', ')',
	' ', '\t', '\r', '\n', '\v', '\f', 0x00, 0x01, 0x1F, 0x7F,
	0x80, 0x85, 0xA0, 'A' | 0x80, 'Z' | 0x80, 'a' | 0x80, 'z' | 0x80, '0' | 0x80, '9' | 0x80, '+' | 0x80, '/' | 0x80, '=' | 0x80, 0xC2, 0xEF, 0xFE, 0xFF,
}

func writes(t *testing.T, b []byte, want string) {
	t.Helper()
	if s := base.Text(b); s != want {
		t.Errorf("Text(%x): %q, not %q", b, s, want)
	}
}

func reads(t *testing.T, s string, want []byte) {
	t.Helper()
	if b, ok := base.Bytes(s); !bytes.Equal(b, want) || !ok {
		t.Errorf("Bytes(%q): %x, %v, not %x, true", s, b, ok, want)
	}
}

// refuses also holds R2: with false there are no bytes.
func refuses(t *testing.T, s string) {
	t.Helper()
	if b, ok := base.Bytes(s); len(b) != 0 || ok {
		t.Errorf("Bytes(%q): %x, %v, not none, false", s, b, ok)
	}
}

// judges reads s or refuses it, as the standard library does when it is strict and passes over no ends of lines.
func judges(t *testing.T, s string) {
	t.Helper()
	want, err := base64.StdEncoding.Strict().DecodeString(s)
	if err != nil || strings.ContainsAny(s, "\r\n") {
		refuses(t, s)
		return
	}
	reads(t, s, want)
}

// roomy answers the bytes with spare room behind them that is filled with more.
func roomy(b, more string) []byte {
	return []byte(b + more)[:len(b)]
}

// spoil writes over a list and over its spare room.
func spoil(b []byte) {
	b = b[:cap(b)]
	for i := range b {
		b[i] ^= 0xA5
	}
}

func one(c byte) string {
	return string([]byte{c})
}

// rows are random ones of each short length, and long ones of each number left over.
func rows() [][]byte {
	rnd := rand.New(rand.NewSource(4))
	lengths := []int{1<<20 - 1, 1 << 20, 1<<20 + 1}
	for n := range 300 {
		lengths = append(lengths, n)
	}
	var all [][]byte
	for _, n := range lengths {
		b := make([]byte, n)
		rnd.Read(b)
		all = append(all, b, make([]byte, n), bytes.Repeat([]byte{0xFF}, n))
	}
	return all
}

// P4.1: Text

func TestTextAtEdges(t *testing.T) {
	writes(t, nil, "")
	for _, e := range edges {
		writes(t, []byte(e.b), e.s)
	}
}

func TestTextOfEveryPair(t *testing.T) {
	for high := range 256 {
		writes(t, []byte{byte(high)}, base64.StdEncoding.EncodeToString([]byte{byte(high)}))
		for low := range 256 {
			b := []byte{byte(high), byte(low)}
			writes(t, b, base64.StdEncoding.EncodeToString(b))
		}
	}
}

// The numbers go up by a prime, so that each of the three bytes has all values.
func TestTextOfThrees(t *testing.T) {
	for v := 0; v < 1<<24; v += 97 {
		b := []byte{byte(v >> 16), byte(v >> 8), byte(v)}
		writes(t, b, base64.StdEncoding.EncodeToString(b))
	}
}

// Each of the 64 values, at each place of a four, is written as the sign at its place of the alphabet.
func TestTextWritesEachSign(t *testing.T) {
	for v, sign := range []byte(alphabet) {
		for place := range 4 {
			bits := v << (18 - 6*place)
			want := strings.Repeat("A", place) + one(sign) + strings.Repeat("A", 3-place)
			writes(t, []byte{byte(bits >> 16), byte(bits >> 8), byte(bits)}, want)
		}
	}
}

func TestTextOfRows(t *testing.T) {
	for _, b := range rows() {
		if s := base.Text(b); s != base64.StdEncoding.EncodeToString(b) {
			t.Errorf("Text of %d bytes: another text, %d long", len(b), len(s))
		}
	}
}

// What stands in the spare room is not b's.
func TestTextEndsWithTheBytes(t *testing.T) {
	for _, e := range edges {
		writes(t, roomy(e.b, "\xff\x12\xab"), e.s)
	}
}

// P4.1: Bytes

func TestBytesAtEdges(t *testing.T) {
	for _, e := range edges {
		reads(t, e.s, []byte(e.b))
	}
}

func TestBytesOfTheChapter(t *testing.T) {
	reads(t, "Zm8=", []byte{0x66, 0x6F})
	refuses(t, "Zm9=")
}

func TestBytesReadsEachSign(t *testing.T) {
	for v, sign := range []byte(alphabet) {
		for place := range 4 {
			bits := v << (18 - 6*place)
			s := strings.Repeat("A", place) + one(sign) + strings.Repeat("A", 3-place)
			reads(t, s, []byte{byte(bits >> 16), byte(bits >> 8), byte(bits)})
		}
	}
}

func TestBytesOfRows(t *testing.T) {
	for _, b := range rows() {
		if got, ok := base.Bytes(base64.StdEncoding.EncodeToString(b)); !bytes.Equal(got, b) || !ok {
			t.Errorf("Bytes of %d bytes' text: %d, %v", len(b), len(got), ok)
		}
	}
}

func TestBytesOfTextAreTheBytes(t *testing.T) {
	for _, b := range rows() {
		if got, ok := base.Bytes(base.Text(b)); !bytes.Equal(got, b) || !ok {
			t.Errorf("Bytes of Text of %d bytes: %d, %v", len(b), len(got), ok)
		}
	}
}

// Every byte at every place, of fours of signs alone and of such with `=`, at the front, in the middle and at the end.
func TestBytesOfEveryByteAtEveryPlace(t *testing.T) {
	for _, good := range []string{"AAAA", "AA==", "AAA=", "Zm9vYmFy", "Zm9vYg==", "Zm9vYmE=", "////+++/////"} {
		for at := range len(good) {
			for c := range 256 {
				judges(t, good[:at]+one(byte(c))+good[at+1:])
			}
		}
	}
}

// All texts of up to two bytes but the empty one are none.
func TestBytesOfShortTexts(t *testing.T) {
	reads(t, "", nil)
	for high := range 256 {
		refuses(t, one(byte(high)))
		for low := range 256 {
			refuses(t, string([]byte{byte(high), byte(low)}))
		}
	}
}

// All texts of up to five of some signs, `=` and a stranger.
func TestBytesOfEveryTextOfSome(t *testing.T) {
	texts := []string{""}
	for range 6 {
		var longer []string
		for _, s := range texts {
			judges(t, s)
			for _, c := range []byte("AQgw/8=-") {
				longer = append(longer, s+one(c))
			}
		}
		texts = longer
	}
}

func TestBytesNotByFours(t *testing.T) {
	for n := range 41 {
		if n%4 == 0 {
			reads(t, strings.Repeat("A", n), make([]byte, n/4*3))
			continue
		}
		refuses(t, strings.Repeat("A", n))
		refuses(t, strings.Repeat("/", n))
		refuses(t, strings.Repeat("=", n))
	}
	for _, e := range edges {
		for n := range len(e.s) {
			if n%4 != 0 {
				refuses(t, e.s[:n])
			}
			if n > 0 {
				judges(t, e.s[n:])
			}
		}
		refuses(t, e.s+"A")
		refuses(t, e.s+"AA")
		refuses(t, e.s+"AAA")
		refuses(t, "A"+e.s)
	}
}

func TestBytesOfWrongFills(t *testing.T) {
	for _, s := range []string{
		"=", "==", "===", "====", "=====", "========",
		"=AAA", "==AA", "===A", "=A==", "=A=A", "=AA=", "A=AA", "A==A", "A=A=", "A===", "AA=A", "A=", "A==", "AA=", "AAA==", "AA===",
		"AAAA=", "AAAA==", "AAAA===", "AAAA====", "AAAAA===", "AAAA=AAA", "AAAAA=AA", "AAAAAA=A", "=AAAAAAA", "====AAAA",
		"AA==A", "AA==AA", "AA==AAA", "AA==AAAA", "AA==AA==", "AA==AAA=", "AA======", "AA==\x00", "AA== ", "AA==\n", "AA==\r\n", "AA=\n=", "AA\n==",
		"AAA=A", "AAA=AA", "AAA=AAA", "AAA=AAAA", "AAA=AA==", "AAA=AAA=", "AAA=====", "AAA=\x00", "AAA= ", "AAA=\n", "AAA=\r\n", "AAA\n=",
		"Zm8", "Zm8==", "Zg", "Zg=", "Zg===", "Zm9v=", "Zm9vYg", "Zm9vYg=", "Zm9vYmE",
	} {
		refuses(t, s)
	}
	for _, e := range edges {
		for _, more := range []string{"=", "==", "===", "===="} {
			refuses(t, e.s+more)
			refuses(t, more+e.s)
		}
	}
}

// Ahead of `==` the sign's four lowest bits are 0, ahead of `=` its two lowest ones.
func TestBytesOfLastSigns(t *testing.T) {
	for v, sign := range []byte(alphabet) {
		for _, front := range []string{"", "////"} {
			ahead := bytes.Repeat([]byte{0xFF}, len(front)/4*3)
			two, three := front+"Z"+one(sign)+"==", front+"Zm"+one(sign)+"="
			if v%16 == 0 {
				reads(t, two, append(bytes.Clone(ahead), byte(25<<2|v>>4)))
			} else {
				refuses(t, two)
			}
			if v%4 == 0 {
				reads(t, three, append(bytes.Clone(ahead), 0x66, byte(0x60|v>>2)))
			} else {
				refuses(t, three)
			}
		}
	}
}

// In the place of a sign, and so put in ahead of it that the number of bytes stays by fours.
func TestBytesOfStrangers(t *testing.T) {
	for _, c := range strangers {
		for _, good := range []string{"Zg==", "Zm8=", "Zm9v", "Zm9vYmFy", "Zm9vYmE=", strings.Repeat("aZ09", 20)} {
			for at := range len(good) {
				refuses(t, good[:at]+one(c)+good[at+1:])
				refuses(t, good[:at]+one(c)+good[at:])
				refuses(t, good[:at]+strings.Repeat(one(c), 4)+good[at:])
			}
			refuses(t, good+one(c))
			refuses(t, good+strings.Repeat(one(c), 4))
		}
		refuses(t, strings.Repeat(one(c), 4))
	}
}

// What other forms of base64 write, and dressed texts.
func TestBytesOfOtherForms(t *testing.T) {
	for _, s := range []string{
		"-_-_", "-_8=", "__8=", "Zg", "Zm8", "Zm9vYg", "Zm9v\nYmFy", "Zm9v\r\nYmFy", "Zm9vYmFy\n", "\nZm9v", " Zm9v", "Zm9v ", "Zm 9", "Zm\t9", "Zm9vYmFy\r\n\r\n",
		`"Zm9v"`, "base64:Zm9v", "data:;base64,Zm9v", "=?Zm9v?=", "Zg%3D%3D", "Zg..", "Zg~~", "Zm9v\x00", "\x00\x00\x00\x00", "\xef\xbb\xbfZm9v", "\uff21\uff21\uff21\uff21", "Zm9\u0076\u0301", "\uff1d", "Zg\uff1d\uff1d",
	} {
		refuses(t, s)
	}
}

// P4.2

// All texts of two signs and `==`, and of three and `=`: of those that are read, each has bytes of its own, and there is one for each row of bytes.
func TestFilledTextsAreReadAsUnlikeBytes(t *testing.T) {
	seen := map[string]string{}
	for _, first := range []byte(alphabet) {
		for _, second := range []byte(alphabet) {
			front := string([]byte{first, second})
			unlike(t, seen, front+"==")
			for _, third := range []byte(alphabet) {
				unlike(t, seen, front+one(third)+"=")
			}
		}
	}
	if len(seen) != 1<<8+1<<16 {
		t.Errorf("%d rows of one and two bytes have a text", len(seen))
	}
}

// Texts that are one sign or two away from each other.
func TestNeighboursAreReadAsUnlikeBytes(t *testing.T) {
	seen := map[string]string{}
	for _, good := range []string{"", "AAAA", "AA==", "AAA=", "////", "/w==", "//8=", "FPucA9l+", "FPucA9k=", "FPucAw=="} {
		unlike(t, seen, good)
		for at := range len(good) {
			for _, c := range []byte(alphabet + "=-_\n\x00\xff") {
				near := good[:at] + one(c) + good[at+1:]
				unlike(t, seen, near)
				for _, last := range []byte(alphabet + "=") {
					unlike(t, seen, near[:len(near)-1]+one(last))
				}
			}
		}
	}
}

// unlike reads a text, if it is one, and fails if seen has its bytes of another text, or if its bytes have another text.
func unlike(t *testing.T, seen map[string]string, s string) {
	t.Helper()
	b, ok := base.Bytes(s)
	if !ok {
		return
	}
	if other, found := seen[string(b)]; found && other != s {
		t.Errorf("%q and %q are both read as %x", other, s, b)
	}
	if back := base.Text(b); back != s {
		t.Errorf("%q is read as %x, whose text is %q", s, b, back)
	}
	seen[string(b)] = s
}

// R4

func TestTextLeavesWhatIsHandedIn(t *testing.T) {
	for _, e := range edges {
		b := roomy(e.b, "\x11\x22\x33\x44")
		all := bytes.Clone(b[:cap(b)])
		s := base.Text(b)
		if !bytes.Equal(b[:cap(b)], all) {
			t.Errorf("Text(%x) changed what was handed in: %x", e.b, b[:cap(b)])
		}
		spoil(b)
		if s != e.s {
			t.Errorf("Text(%x) kept what was handed in: %q", e.b, s)
		}
	}
}

// A list that is written over, its spare room too, is seen in no other answer and in no text.
func TestBytesAnswersNewMemory(t *testing.T) {
	for _, e := range edges {
		text := strings.Clone(e.s)
		first, _ := base.Bytes(text)
		second, _ := base.Bytes(text)
		kept := bytes.Clone(second[:cap(second)])
		spoil(first)
		if string(second) != e.b || !bytes.Equal(second[:cap(second)], kept) {
			t.Errorf("two answers of Bytes(%q) share memory", e.s)
		}
		if text != e.s {
			t.Errorf("the text %q became %q", e.s, text)
		}
		reads(t, e.s, []byte(e.b))
		writes(t, []byte(e.b), e.s)
	}
}

// R5: what a refused call began is in no later answer.
func TestBytesBehindARefusal(t *testing.T) {
	for _, wrong := range []string{"/////===", "///", "//9=", "////\xff", "/////w==/"} {
		refuses(t, wrong)
		reads(t, "AQI=", []byte{1, 2})
		reads(t, "", nil)
		writes(t, []byte{1, 2}, "AQI=")
	}
}
