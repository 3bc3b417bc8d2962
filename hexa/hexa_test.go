package hexa_test

import (
	"bytes"
	"encoding/hex"
	"math/rand"
	"strings"
	"testing"

	"propylon/hexa"
)

// edges are bytes at the bounds of the digits, in the higher and in the lower place, each row with its text.
var edges = []struct {
	b []byte
	s string
}{
	{nil, ""}, {[]byte{}, ""},
	{[]byte{0x00}, "00"}, {[]byte{0x01}, "01"}, {[]byte{0x09}, "09"}, {[]byte{0x0A}, "0a"}, {[]byte{0x0F}, "0f"},
	{[]byte{0x10}, "10"}, {[]byte{0x19}, "19"}, {[]byte{0x1A}, "1a"}, {[]byte{0x7F}, "7f"}, {[]byte{0x80}, "80"},
	{[]byte{0x90}, "90"}, {[]byte{0x99}, "99"}, {[]byte{0x9A}, "9a"}, {[]byte{0x9F}, "9f"},
	{[]byte{0xA0}, "a0"}, {[]byte{0xA9}, "a9"}, {[]byte{0xAA}, "aa"}, {[]byte{0xAF}, "af"},
	{[]byte{0xF0}, "f0"}, {[]byte{0xF9}, "f9"}, {[]byte{0xFA}, "fa"}, {[]byte{0xFF}, "ff"},
	{[]byte{0x0A, 0xFF}, "0aff"}, {[]byte{0xFF, 0x0A}, "ff0a"},
	{[]byte{0x00, 0x00}, "0000"}, {[]byte{0x00, 0x01}, "0001"}, {[]byte{0x01, 0x00}, "0100"}, {[]byte{0xFF, 0x00, 0xFF}, "ff00ff"},
	{[]byte{0x01, 0x23, 0x45, 0x67, 0x89, 0xAB, 0xCD, 0xEF}, "0123456789abcdef"},
	{[]byte{0xFE, 0xDC, 0xBA, 0x98, 0x76, 0x54, 0x32, 0x10}, "fedcba9876543210"},
}

// strangers are bytes that are no digits: the digits' neighbours, those that differ from a digit by one bit of the higher ones, and such as a looser reader would pass over.
var strangers = []byte{
	'/', ':', '@', 'G', '`', 'g',
	0x00, 0x01, 0x09, 0x0A, 0x0F, 0x10, 0x19, 0x1F, 'p', 'P', 'Z', 'z', 'x', 'X', 'O', 'l',
	' ', '\t', '\r', '\n', '+', '-', '.', '_', '"', '$', '=', 0x7F,
	0x80, 0x81, 0x9F, '0' | 0x80, '9' | 0x80, 'A' | 0x80, 'F' | 0x80, 'a' | 0x80, 'f' | 0x80, 0xC2, 0xEF, 0xFE, 0xFF,
}

func writes(t *testing.T, b []byte, want string) {
	t.Helper()
	if s := hexa.Text(b); s != want {
		t.Errorf("Text(%x): %q, not %q", b, s, want)
	}
}

func reads(t *testing.T, s string, want []byte) {
	t.Helper()
	if b, ok := hexa.Bytes(s); !bytes.Equal(b, want) || !ok {
		t.Errorf("Bytes(%q): %x, %v, not %x, true", s, b, ok, want)
	}
}

// refuses also holds R2: with false there are no bytes.
func refuses(t *testing.T, s string) {
	t.Helper()
	if b, ok := hexa.Bytes(s); len(b) != 0 || ok {
		t.Errorf("Bytes(%q): %x, %v, not none, false", s, b, ok)
	}
}

// roomy answers the bytes with spare room behind them that is filled with more.
func roomy(b, more []byte) []byte {
	return append(bytes.Clone(b), more...)[:len(b)]
}

// spoil writes over a list and over its spare room.
func spoil(b []byte) {
	b = b[:cap(b)]
	for i := range b {
		b[i] ^= 0xA5
	}
}

// allBytes are the 256 bytes, from 0 on.
func allBytes() []byte {
	all := make([]byte, 256)
	for i := range all {
		all[i] = byte(i)
	}
	return all
}

// isDigit says by a list of them, not by bounds, which bytes are digits.
func isDigit(c int) bool {
	return c < 128 && strings.ContainsRune("0123456789abcdefABCDEF", rune(c))
}

// P3.1: Text

func TestTextAtEdges(t *testing.T) {
	for _, e := range edges {
		writes(t, e.b, e.s)
	}
}

func TestTextOfEveryByte(t *testing.T) {
	for _, v := range allBytes() {
		want := hex.EncodeToString([]byte{v})
		writes(t, []byte{v}, want)
		writes(t, []byte{0x5C, v}, "5c"+want)
		writes(t, []byte{v, 0xC5}, want+"c5")
	}
	writes(t, allBytes(), hex.EncodeToString(allBytes()))
}

func TestTextOfEveryPair(t *testing.T) {
	for v := range 1 << 16 {
		b := []byte{byte(v >> 8), byte(v)}
		if s := hexa.Text(b); s != hex.EncodeToString(b) {
			t.Fatalf("Text(%x): %q", b, s)
		}
	}
}

// What stands in the spare room is not b's.
func TestTextEndsWithTheBytes(t *testing.T) {
	for _, e := range edges {
		writes(t, roomy(e.b, []byte{0x12, 0xAB}), e.s)
	}
}

// P3.1: Bytes

func TestBytesAtEdges(t *testing.T) {
	for _, e := range edges {
		reads(t, e.s, e.b)
	}
}

func TestBytesOfBothSortsOfLetters(t *testing.T) {
	for _, e := range edges {
		reads(t, strings.ToUpper(e.s), e.b)
	}
	for _, c := range []struct {
		s string
		b []byte
	}{
		{"A0", []byte{0xA0}}, {"0A", []byte{0x0A}}, {"F0", []byte{0xF0}}, {"0F", []byte{0x0F}},
		{"aA", []byte{0xAA}}, {"Aa", []byte{0xAA}}, {"fF", []byte{0xFF}}, {"Ff", []byte{0xFF}}, {"aF", []byte{0xAF}}, {"Fa", []byte{0xFA}},
		{"0aFF", []byte{0x0A, 0xFF}}, {"AbCdEf", []byte{0xAB, 0xCD, 0xEF}}, {"aBcDeF", []byte{0xAB, 0xCD, 0xEF}}, {"abcdefABCDEF", []byte{0xAB, 0xCD, 0xEF, 0xAB, 0xCD, 0xEF}},
	} {
		reads(t, c.s, c.b)
	}
}

// All texts of two bytes: each is read or refused as a list of the digits says.
func TestBytesOfEveryPair(t *testing.T) {
	for high := range 256 {
		for low := range 256 {
			s := string([]byte{byte(high), byte(low)})
			if !isDigit(high) || !isDigit(low) {
				refuses(t, s)
				continue
			}
			want, err := hex.DecodeString(s)
			if err != nil {
				t.Fatal(err)
			}
			reads(t, s, want)
		}
	}
}

func TestBytesOfAnOddNumber(t *testing.T) {
	for c := range 256 {
		refuses(t, string([]byte{byte(c)}))
		refuses(t, "00"+string([]byte{byte(c)}))
		refuses(t, string([]byte{byte(c)})+"ff")
	}
	for n := range 40 {
		refuses(t, strings.Repeat("0", 2*n+1))
		refuses(t, strings.Repeat("f", 2*n+1))
		reads(t, strings.Repeat("0", 2*n), make([]byte, n))
	}
	for _, e := range edges {
		refuses(t, e.s+"0")
		refuses(t, "f"+e.s)
	}
}

// The number of bytes stays even: they are refused for the one that is no digit alone.
func TestBytesOfNoDigits(t *testing.T) {
	for _, c := range strangers {
		for _, good := range []string{"00", "0aff", "AbCdEf09", strings.Repeat("a5", 40)} {
			for at := range len(good) {
				refuses(t, good[:at]+string([]byte{c})+good[at+1:])
			}
			refuses(t, good+string([]byte{c, c}))
			refuses(t, string([]byte{c, c})+good)
		}
	}
}

func TestBytesOfDressedTexts(t *testing.T) {
	for _, s := range []string{
		"0x", "0X", "0x00", "0X0a", "x'00", "$0", "#0", "\\x", "\\x41", "00h0", " 00 ", "00 0", "0 00", "00\n0", "00\r\n", "\t00\t", "00\x00\x00", "\x00\x0000", "\x00\x00",
		"+0", "-0", "+1-1", "0.", ".0", "1e+5", "0_", "0_00", "0,00", "00-00-", "00:00:", `"00"`, "=0", "00==",
		"\xc3\xbf", "\xef\xbb\xbf0", "\u0660", "\uff10\uff11", "\uff21\uff41", "\U0001D7CE", "\xff\xff", "\x80\x80",
	} {
		refuses(t, s)
	}
}

// P3.2

func TestBytesOfTextAreTheBytes(t *testing.T) {
	rnd := rand.New(rand.NewSource(3))
	rows := [][]byte{nil, {}, {0}, {0, 0, 0}, allBytes(), bytes.Repeat([]byte{0xFF}, 1000), make([]byte, 1<<20)}
	for n := range 300 {
		b := make([]byte, n)
		rnd.Read(b)
		rows = append(rows, b)
	}
	for _, e := range edges {
		rows = append(rows, e.b)
	}
	for _, b := range rows {
		s := hexa.Text(b)
		if len(s) != 2*len(b) || s != hex.EncodeToString(b) {
			t.Errorf("Text of %d bytes: %d long", len(b), len(s))
		}
		if got, ok := hexa.Bytes(s); !bytes.Equal(got, b) || !ok {
			t.Errorf("Bytes of Text of %d bytes: %d, %v", len(b), len(got), ok)
		}
	}
}

// R4

func TestTextLeavesWhatIsHandedIn(t *testing.T) {
	for _, e := range edges {
		b := roomy(e.b, []byte{0x11, 0x22, 0x33})
		all := bytes.Clone(b[:cap(b)])
		s := hexa.Text(b)
		if !bytes.Equal(b[:cap(b)], all) {
			t.Errorf("Text(%x) changed what was handed in: %x", e.b, b[:cap(b)])
		}
		spoil(b)
		if s != e.s {
			t.Errorf("Text(%x) kept what was handed in: %q", e.b, s)
		}
	}
}

// A list that is written over, its spare room too, is seen in no other answer and in no text.
func TestBytesAnswersNewMemory(t *testing.T) {
	for _, e := range edges {
		first, _ := hexa.Bytes(e.s)
		second, _ := hexa.Bytes(e.s)
		kept := bytes.Clone(second[:cap(second)])
		spoil(first)
		if !bytes.Equal(second, e.b) || !bytes.Equal(second[:cap(second)], kept) {
			t.Errorf("two answers of Bytes(%q) share memory", e.s)
		}
		reads(t, e.s, e.b)
		writes(t, e.b, e.s)
	}
}

func TestBytesLeavesTheText(t *testing.T) {
	for _, e := range edges {
		s := strings.Clone(e.s)
		b, _ := hexa.Bytes(s)
		spoil(b)
		if s != e.s {
			t.Errorf("the text %q became %q", e.s, s)
		}
	}
}

// R5: what a refused call began is in no later answer.
func TestBytesBehindARefusal(t *testing.T) {
	for _, wrong := range []string{"ffffffg0", "fff", "ff\xff\xff", ""} {
		hexa.Bytes(wrong)
		reads(t, "0102", []byte{1, 2})
		reads(t, "", nil)
		writes(t, []byte{1, 2}, "0102")
	}
}
