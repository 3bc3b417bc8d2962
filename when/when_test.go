package when_test

import (
	"fmt"
	"math"
	"math/rand"
	"regexp"
	"strconv"
	"strings"
	"testing"
	"time"

	"propylon/when"
)

const (
	second = 1000
	minute = 60 * second
	hour   = 60 * minute
	day    = 24 * hour

	// last is the last time of all.
	last = 253402300799999
)

// texts are times with their texts, written out.
var texts = []struct {
	ms   int64
	want string
}{
	// The first and the last time of all, and those beside them.
	{0, "1970-01-01T00:00:00Z"}, {1, "1970-01-01T00:00:00.001Z"}, {last, "9999-12-31T23:59:59.999Z"}, {last - 1, "9999-12-31T23:59:59.998Z"}, {last - 999, "9999-12-31T23:59:59Z"}, {last - 1000, "9999-12-31T23:59:58.999Z"},
	// Milliseconds of one, two and three digits.
	{2, "1970-01-01T00:00:00.002Z"}, {9, "1970-01-01T00:00:00.009Z"}, {10, "1970-01-01T00:00:00.010Z"}, {11, "1970-01-01T00:00:00.011Z"}, {99, "1970-01-01T00:00:00.099Z"}, {100, "1970-01-01T00:00:00.100Z"}, {101, "1970-01-01T00:00:00.101Z"}, {110, "1970-01-01T00:00:00.110Z"}, {123, "1970-01-01T00:00:00.123Z"}, {500, "1970-01-01T00:00:00.500Z"}, {999, "1970-01-01T00:00:00.999Z"},
	// The ends of a second, a minute, an hour, a day, a month, a year.
	{1000, "1970-01-01T00:00:01Z"}, {1001, "1970-01-01T00:00:01.001Z"}, {9999, "1970-01-01T00:00:09.999Z"}, {10000, "1970-01-01T00:00:10Z"},
	{59999, "1970-01-01T00:00:59.999Z"}, {60000, "1970-01-01T00:01:00Z"}, {60001, "1970-01-01T00:01:00.001Z"},
	{3599999, "1970-01-01T00:59:59.999Z"}, {3600000, "1970-01-01T01:00:00Z"}, {3600001, "1970-01-01T01:00:00.001Z"}, {36000000, "1970-01-01T10:00:00Z"}, {43200000, "1970-01-01T12:00:00Z"}, {46800000, "1970-01-01T13:00:00Z"},
	{86399999, "1970-01-01T23:59:59.999Z"}, {86400000, "1970-01-02T00:00:00Z"}, {86400001, "1970-01-02T00:00:00.001Z"}, {777600000, "1970-01-10T00:00:00Z"},
	{2678399999, "1970-01-31T23:59:59.999Z"}, {2678400000, "1970-02-01T00:00:00Z"}, {5097599999, "1970-02-28T23:59:59.999Z"}, {5097600000, "1970-03-01T00:00:00Z"}, {23587200000, "1970-10-01T00:00:00Z"},
	{31535999999, "1970-12-31T23:59:59.999Z"}, {31536000000, "1971-01-01T00:00:00Z"}, {63071999999, "1971-12-31T23:59:59.999Z"}, {63072000000, "1972-01-01T00:00:00Z"}, {94694399999, "1972-12-31T23:59:59.999Z"}, {94694400000, "1973-01-01T00:00:00Z"},
	// February's end in years of both kinds.
	{68169599999, "1972-02-28T23:59:59.999Z"}, {68169600000, "1972-02-29T00:00:00Z"}, {68255999999, "1972-02-29T23:59:59.999Z"}, {68256000000, "1972-03-01T00:00:00Z"},
	{951782399999, "2000-02-28T23:59:59.999Z"}, {951782400000, "2000-02-29T00:00:00Z"}, {951868799999, "2000-02-29T23:59:59.999Z"}, {951868800000, "2000-03-01T00:00:00Z"},
	{1677628799999, "2023-02-28T23:59:59.999Z"}, {1677628800000, "2023-03-01T00:00:00Z"}, {1709164800000, "2024-02-29T00:00:00Z"}, {1709251199999, "2024-02-29T23:59:59.999Z"}, {1709251200000, "2024-03-01T00:00:00Z"},
	{4107542399999, "2100-02-28T23:59:59.999Z"}, {4107542400000, "2100-03-01T00:00:00Z"}, {13574563200000, "2400-02-29T00:00:00Z"}, {13574649599999, "2400-02-29T23:59:59.999Z"}, {13574649600000, "2400-03-01T00:00:00Z"},
	// The ends of years about hundreds.
	{946684799999, "1999-12-31T23:59:59.999Z"}, {946684800000, "2000-01-01T00:00:00Z"}, {978307199999, "2000-12-31T23:59:59.999Z"}, {978307200000, "2001-01-01T00:00:00Z"}, {4102444799999, "2099-12-31T23:59:59.999Z"}, {4102444800000, "2100-01-01T00:00:00Z"}, {4133980799999, "2100-12-31T23:59:59.999Z"}, {4133980800000, "2101-01-01T00:00:00Z"},
	// Numbers around bounds of 31 and 32 bits, of seconds and of milliseconds.
	{2147483647, "1970-01-25T20:31:23.647Z"}, {2147483648, "1970-01-25T20:31:23.648Z"}, {4294967296, "1970-02-19T17:02:47.296Z"}, {2147483647000, "2038-01-19T03:14:07Z"}, {2147483648000, "2038-01-19T03:14:08Z"}, {4294967296000, "2106-02-07T06:28:16Z"}, {1000000000000, "2001-09-09T01:46:40Z"}, {1234567890123, "2009-02-13T23:31:30.123Z"},
}

// others are texts that no Text is: with digits of 0 behind the point.
var others = []struct {
	s    string
	want int64
}{
	{"1970-01-01T00:00:00.000Z", 0}, {"1970-01-01T00:00:01.000Z", 1000}, {"1970-12-31T23:59:59.000Z", 31535999000}, {"2000-02-29T12:34:56.000Z", 951827696000}, {"9999-12-31T23:59:59.000Z", last - 999},
}

// noTexts are no texts of a time, each for one thing that is wrong.
var noTexts = []string{
	// Years that have no time, years of another length.
	"1969-12-31T23:59:59Z", "1969-12-31T23:59:59.999Z", "1969-01-01T00:00:00Z", "1968-02-29T00:00:00Z", "1900-01-01T00:00:00Z", "1600-02-29T00:00:00Z", "0970-01-01T00:00:00Z", "0000-01-01T00:00:00Z", "0001-01-01T00:00:00Z", "0004-02-29T00:00:00Z", "970-01-01T00:00:00Z", "70-01-01T00:00:00Z", "10000-01-01T00:00:00Z", "01970-01-01T00:00:00Z", "-001970-01-01T00:00:00Z", "+001970-01-01T00:00:00Z", "-1970-01-01T00:00:00Z", "+1970-01-01T00:00:00Z",
	// Months and days that there are not.
	"1970-00-01T00:00:00Z", "1970-00-00T00:00:00Z", "1970-13-01T00:00:00Z", "1970-14-01T00:00:00Z", "1970-20-01T00:00:00Z", "1970-99-01T00:00:00Z", "9999-13-01T00:00:00Z",
	"1970-01-00T00:00:00Z", "1970-02-00T00:00:00Z", "1970-12-00T00:00:00Z", "2000-03-00T00:00:00Z", "1970-01-40T00:00:00Z", "1970-01-99T00:00:00Z",
	"1970-01-32T00:00:00Z", "1970-02-29T00:00:00Z", "1970-03-32T00:00:00Z", "1970-04-31T00:00:00Z", "1970-05-32T00:00:00Z", "1970-06-31T00:00:00Z", "1970-07-32T00:00:00Z", "1970-08-32T00:00:00Z", "1970-09-31T00:00:00Z", "1970-10-32T00:00:00Z", "1970-11-31T00:00:00Z", "1970-12-32T00:00:00Z", "9999-12-32T00:00:00Z",
	"1971-02-29T00:00:00Z", "1972-02-30T00:00:00Z", "1974-02-29T00:00:00Z", "2000-02-30T00:00:00Z", "2001-02-29T00:00:00Z", "2023-02-29T00:00:00Z", "2024-02-30T00:00:00Z", "2100-02-29T00:00:00Z", "2200-02-29T00:00:00Z", "2300-02-29T00:00:00Z", "2400-02-30T00:00:00Z", "2500-02-29T00:00:00Z", "9900-02-29T00:00:00Z", "9999-02-29T00:00:00Z", "9996-02-30T00:00:00Z",
	// Hours, minutes and seconds that there are not.
	"1970-01-01T24:00:00Z", "1970-01-01T24:00:00.000Z", "1970-01-01T25:00:00Z", "1970-01-01T30:00:00Z", "1970-01-01T99:00:00Z", "9999-12-31T24:00:00Z", "1970-01-01T00:60:00Z", "1970-01-01T23:60:00Z", "1970-01-01T00:61:00Z", "1970-01-01T00:99:00Z", "1970-01-01T00:00:60Z", "1970-01-01T23:59:60Z", "1970-01-01T23:59:60.999Z", "1970-12-31T23:59:60Z", "2016-12-31T23:59:60Z", "1970-01-01T00:00:61Z", "1970-01-01T00:00:99Z", "1970-06-30T23:59:60Z",
	// Small letters, other signs, signs left out or twice.
	"1970-01-01t00:00:00Z", "1970-01-01T00:00:00z", "1970-01-01t00:00:00z", "1970-01-01t00:00:00.000Z", "1970-01-01T00:00:00.000z", "1970-01-01 00:00:00Z", "1970-01-01_00:00:00Z", "1970/01/01T00:00:00Z", "1970:01:01T00:00:00Z", "1970.01.01T00:00:00Z", "1970-01-01T00-00-00Z", "1970-01-01T00.00.00Z", "1970-01-01T00;00;00Z", "1970-01/01T00:00:00Z", "1970/01-01T00:00:00Z", "1970-01-01T00-00:00Z", "1970-01-01T00:00-00Z", "1970\u201001-01T00:00:00Z", "1970\u221201\u221201T00:00:00Z",
	"19700101T000000Z", "1970-01-01T000000Z", "19700101T00:00:00Z", "1970-01-0100:00:00Z", "1970-01-01TT00:00:00Z", "1970--01-01T00:00:00Z", "1970-01-01T00::00:00Z", "1970-01-01T00:00:00ZZ", "1970-01-01T00:00:00", "1970-01-01T00:00:00.000", "1970-01-01T00:00:00ZT", "1970-01-01T00:00:00A", "1970-01-01T00:00:00.000A", "1970-01-01T00:00:00Y", "1970-01-01T00:00:00[", "1970-01-01S00:00:00Z", "1970-01-01U00:00:00Z",
	// Other offsets than Z.
	"1970-01-01T00:00:00+00:00", "1970-01-01T00:00:00-00:00", "1970-01-01T00:00:00+0000", "1970-01-01T00:00:00+00", "1970-01-01T00:00:00.000+00:00", "1970-01-01T00:00:00+01:00", "1970-01-01T00:00:00Z+00:00", "1970-01-01T00:00:00UTC", "1970-01-01T00:00:00 Z", "1970-01-01T00:00:00 UTC",
	// Fewer parts, parts of fewer or more digits.
	"1970", "1970-01", "1970-01-01", "1970-01-01T", "1970-01-01Z", "1970-01-01TZ", "1970-01-01T00Z", "1970-01-01T00:00Z", "1970-01-01T00:00", "00:00:00Z", "T00:00:00Z", "01-01T00:00:00Z", "1970-1-01T00:00:00Z", "1970-01-1T00:00:00Z", "1970-1-1T0:0:0Z", "1970-01-01T0:00:00Z", "1970-01-01T00:0:00Z", "1970-01-01T00:00:0Z", "1970-001-01T00:00:00Z", "1970-01-001T00:00:00Z", "1970-01-01T000:00:00Z", "1970-01-01T00:000:00Z", "1970-01-01T00:00:000Z", "1970-001T00:00:00Z", "1970-W01-1T00:00:00Z", "1970-1-001T00:00:00Z", "197-001-01T00:00:00Z",
	// Signs and other bytes for digits.
	"+970-01-01T00:00:00Z", "-970-01-01T00:00:00Z", " 970-01-01T00:00:00Z", "1970-+1-01T00:00:00Z", "1970--1-01T00:00:00Z", "1970- 1-01T00:00:00Z", "1970-01-+1T00:00:00Z", "1970-01--1T00:00:00Z", "1970-01- 1T00:00:00Z", "1970-01-01T+0:00:00Z", "1970-01-01T-0:00:00Z", "1970-01-01T+1:00:00Z", "1970-01-01T 0:00:00Z", "1970-01-01T00:+0:00Z", "1970-01-01T00:-0:00Z", "1970-01-01T00:00:+0Z", "1970-01-01T00:00:-0Z", "1970-01-01T00:00: 0Z", "1970-01-01T00:00:00.+00Z", "1970-01-01T00:00:00.-00Z", "1970-01-01T00:00:00.-01Z", "1970-01-01T00:00:00. 00Z", "1970-01-01T00:00:00.0-1Z",
	"197a-01-01T00:00:00Z", "a970-01-01T00:00:00Z", "1_70-01-01T00:00:00Z", "0x70-01-01T00:00:00Z", "1e70-01-01T00:00:00Z", "1970-0x-01T00:00:00Z", "1970-01-0aT00:00:00Z", "1970-01-01T0f:00:00Z", "1970-01-01T00:00:00.00aZ", "1970-01-01T00:00:00.e00Z", "1970-01-01T00:00:00.0_0Z", "1970-01-01T00:00:00.0.0Z", "197/-01-01T00:00:00Z", "197:-01-01T00:00:00Z", "1970-0/-01T00:00:00Z", "1970-0:-01T00:00:00Z", "1970-01-0/T00:00:00Z", "1970-01-0:T00:00:00Z", "1970-01-01T1:/00:00Z", "1970-01-01T0::00:00Z", "1970-01-01T00:0::00Z", "1970-01-01T00:00:0:Z", "1970-01-01T00:00:0/Z", "1970-01-01T00:00:00.00:Z", "1970-01-01T00:00:00.00/Z",
	"\u0661970-01-01T00:00:00Z", "1970-01-01T00:00:0\u0660Z", "\uff11970-01-01T00:00:00Z", "1970-0\u0661T00:00:00Z", "1970-01-01T00:00:00.\u0660\u0660\u0660Z", "1970-01-01T00:00:00.0\u0660Z", "\xb1970-01-01T00:00:00Z", "1970-01-01T00:00:0\xb0Z", "1970-01-01T00:00:00\xdaZ", "1970-01-01T00:00:00\xda", "1970-01-01\xd400:00:00Z",
	// The part behind the second.
	"1970-01-01T00:00:00.Z", "1970-01-01T00:00:00.0Z", "1970-01-01T00:00:00.1Z", "1970-01-01T00:00:00.00Z", "1970-01-01T00:00:00.12Z", "1970-01-01T00:00:00.0000Z", "1970-01-01T00:00:00.1234Z", "1970-01-01T00:00:00.000000Z", "1970-01-01T00:00:00.123456Z", "1970-01-01T00:00:00.000000000Z", "1970-01-01T00:00:00,000Z", "1970-01-01T00:00:00,123Z", "1970-01-01T00:00:00:000Z", "1970-01-01T00:00:00-000Z", "1970-01-01T00:00:00'000Z", "1970-01-01T00:00:000000Z", "1970-01-01T00:00:00000Z", "1970-01-01T00:00:00..00Z", "1970-01-01T00:00:00.000.000Z", "1970-01-01T00:00:00.000.Z", "1970-01-01T00:00:00Z.000", "1970-01-01T00:00:00Z000Z", "1970-01-01T00:00:00.000ZZ", "1970-01-01T00:00.000Z", "1970-01-01T00:00:0.000Z", "1970-01-01T00:00:00\u066b000Z", "1970-01-01T00:00:00\uff0e000Z",
	// Bytes about it.
	"", " ", "Z", "T", "-", ".", "0", "\x00", "0Z", " 1970-01-01T00:00:00Z", "1970-01-01T00:00:00Z ", "1970-01-01T00:00:00Z\n", "\n1970-01-01T00:00:00Z", "\t1970-01-01T00:00:00Z", "1970-01-01T00:00:00Z\r\n", "1970-01-01T00:00:00Z\x00", "\x001970-01-01T00:00:00Z", "1970-01-01\x00T00:00:00Z", "1970-01-01T00:00:00\x00Z", "1970-01-01T00:00:00.000Z ", "1970-01-01T00:00:00.000Z\x00", " 1970-01-01T00:00:00.000Z", "\"1970-01-01T00:00:00Z\"", "(1970-01-01T00:00:00Z)", "\xef\xbb\xbf1970-01-01T00:00:00Z", "1970-01-01T00:00:00Z\u00a0", "1970-01-01T00:00:00Z1970-01-01T00:00:00Z", "Thu, 01 Jan 1970 00:00:00 GMT", "1970-Jan-01T00:00:00Z", "1970-Jan-1T00:00:00Z", "January", "0000-00-00T00:00:00Z", "0000-00-00T00:00:00.000Z", "YYYY-MM-DDTHH:MM:SSZ", "now", "-0", "NaN",
}

// wholes are texts that there are, for what is changed at one place, or at some.
var wholes = []string{"1970-01-01T00:00:00Z", "1970-01-01T00:00:00.000Z", "2000-02-29T12:34:56Z", "2019-10-28T20:19:09.189Z", "2096-02-28T19:49:39.909Z", "9999-12-31T23:59:59Z", "9999-12-31T23:59:59.999Z"}

// strangers stand ahead of, behind and within texts, or for what is there.
var strangers = []string{"0", "1", "9", "00", "000", "-", "+", ".", ",", ":", ";", "/", "T", "t", "Z", "z", " ", "\x00", "\t", "\n", "a", "_", ".0", ".00", ".000", ".0000", ".0Z", "Z0", "00Z", "+00:00", "-01", ":00", "T00", "\x7f", "\x80", "\xb0", "\xff", "\u0660", "\u2212", "\uff10"}

// shape tells by an expression, not by places, what a text's parts are.
var shape = regexp.MustCompile(`\A([0-9]{4})-([0-9]{2})-([0-9]{2})T([0-9]{2}):([0-9]{2}):([0-9]{2})(?:\.([0-9]{3}))?Z\z`)

// cut keeps what a test tells short.
func cut(s string) string {
	if len(s) > 80 {
		return fmt.Sprintf("%q .. (%d bytes)", s[:80], len(s))
	}
	return strconv.Quote(s)
}

func writes(t *testing.T, ms int64, want string) {
	t.Helper()
	if s, ok := when.Text(ms); s != want || !ok {
		t.Errorf("Text(%d): %q, %v, not %q, true", ms, s, ok, want)
	}
}

// writesNone also holds R2: with false there is an empty text.
func writesNone(t *testing.T, ms int64) {
	t.Helper()
	if s, ok := when.Text(ms); s != "" || ok {
		t.Errorf("Text(%d): %q, %v, not empty, false", ms, s, ok)
	}
}

func reads(t *testing.T, s string, want int64) {
	t.Helper()
	if ms, ok := when.Parse(s); ms != want || !ok {
		t.Errorf("Parse(%s): %d, %v, not %d, true", cut(s), ms, ok, want)
	}
}

// refuses also holds R2: with false there is 0.
func refuses(t *testing.T, s string) {
	t.Helper()
	if ms, ok := when.Parse(s); ms != 0 || ok {
		t.Errorf("Parse(%s): %d, %v, not 0, false", cut(s), ms, ok)
	}
}

// goes goes from a time to its text, and back.
func goes(t *testing.T, ms int64, want string) {
	t.Helper()
	writes(t, ms, want)
	reads(t, want, ms)
}

// told is the text that the standard library's calendar tells.
func told(ms int64) string {
	at := time.UnixMilli(ms).UTC()
	if ms%1000 == 0 {
		return at.Format("2006-01-02T15:04:05Z")
	}
	return at.Format("2006-01-02T15:04:05.000Z")
}

// judged is the time of a text by the expression and by the standard library's calendar, which makes of a day that there is not another one.
func judged(s string) (int64, bool) {
	parts := shape.FindStringSubmatch(s)
	if parts == nil {
		return 0, false
	}
	n := make([]int, 8)
	for i := range n {
		n[i], _ = strconv.Atoi(parts[i])
	}
	at := time.Date(n[1], time.Month(n[2]), n[3], n[4], n[5], n[6], n[7]*1000000, time.UTC)
	same := at.Year() == n[1] && int(at.Month()) == n[2] && at.Day() == n[3] && at.Hour() == n[4] && at.Minute() == n[5] && at.Second() == n[6]
	if !same || n[1] < 1970 {
		return 0, false
	}
	return at.UnixMilli(), true
}

// judges reads s or refuses it, as judged says; the Text of what is read is s, but for digits of 0 behind the point.
func judges(t *testing.T, s string) {
	t.Helper()
	ms, ok := judged(s)
	if !ok {
		refuses(t, s)
		return
	}
	reads(t, s, ms)
	writes(t, ms, strings.Replace(s, ".000Z", "Z", 1))
}

// P16.1: Text

func TestText(t *testing.T) {
	for _, c := range texts {
		writes(t, c.ms, c.want)
	}
}

func TestTextOfNoTime(t *testing.T) {
	for _, ms := range []int64{-1, -2, -999, -1000, -1001, -minute, -hour, -day, -365 * day, -366 * day, -last, -last - 1, last + 1, last + 2, last + 999, last + 1000, last + 1001, last + 1 + day, 2 * last, -1 << 31, -1 << 32, -1 << 53, 1 << 53, -1 << 62, 1 << 62, math.MinInt64, math.MinInt64 + 1, math.MinInt64 + 999, math.MaxInt64, math.MaxInt64 - 1, -62135596800000, -62167219200000, 253402300800000} {
		writesNone(t, ms)
	}
}

// Times far out, sums of powers of 2 and of times that have a text among them: none comes round to one that has.
func TestTextFarOut(t *testing.T) {
	rnd := rand.New(rand.NewSource(161))
	for k := 48; k < 63; k++ {
		for range 200 {
			writesNone(t, int64(1)<<k+rnd.Int63n(last+1))
			writesNone(t, -(int64(1)<<k)-rnd.Int63n(1<<k))
			writesNone(t, math.MinInt64+rnd.Int63n(last+1))
			writesNone(t, last+1+rnd.Int63n(math.MaxInt64-last))
			writesNone(t, -1-rnd.Int63n(math.MaxInt64))
		}
	}
}

// The test goes through all days that there are by a calendar of its own, with the first and the last millisecond of each.
func TestEachDay(t *testing.T) {
	at := int64(0)
	for year := 1970; year <= 9999; year++ {
		lengths := [...]int{31, 28, 31, 30, 31, 30, 31, 31, 30, 31, 30, 31}
		if year%400 == 0 || year%4 == 0 && year%100 != 0 {
			lengths[1] = 29
		}
		for month, length := range lengths {
			for d := 1; d <= length; d++ {
				name := strconv.Itoa(year) + "-" + strconv.Itoa(100 + month + 1)[1:] + "-" + strconv.Itoa(100 + d)[1:]
				goes(t, at, name+"T00:00:00Z")
				goes(t, at+day-1, name+"T23:59:59.999Z")
				at += day
			}
			refuses(t, strconv.Itoa(year)+"-"+strconv.Itoa(100 + month + 1)[1:]+"-"+strconv.Itoa(101 + length)[1:]+"T00:00:00Z")
			if t.Failed() {
				return
			}
		}
	}
	if at != last+1 {
		t.Errorf("the days end at %d", at)
	}
	writesNone(t, at)
}

func TestEachSecondOfADay(t *testing.T) {
	for _, start := range []int64{0, 951782400000, 4107542400000, last + 1 - day} {
		name := told(start)[:10]
		for s := range 24 * 60 * 60 {
			clock := fmt.Sprintf("T%02d:%02d:%02d", s/3600, s/60%60, s%60)
			goes(t, start+int64(s)*second, name+clock+"Z")
			if s%7 == 0 {
				goes(t, start+int64(s)*second+int64(s%999+1), name+clock+fmt.Sprintf(".%03dZ", s%999+1))
			}
		}
	}
}

func TestEachMillisecondOfASecond(t *testing.T) {
	for _, start := range []int64{0, 59 * second, 951868799000, 1234567890000, last - 999} {
		name := told(start)[:19]
		goes(t, start, name+"Z")
		reads(t, name+".000Z", start)
		for ms := int64(1); ms < second; ms++ {
			goes(t, start+ms, fmt.Sprintf("%s.%03dZ", name, ms))
		}
	}
}

// About the ends of each year and of its February, of its quarters too, by the standard library's calendar.
func TestAboutTheEndsOfYears(t *testing.T) {
	for year := 1970; year <= 9999; year++ {
		for _, end := range []time.Time{time.Date(year, 1, 1, 0, 0, 0, 0, time.UTC), time.Date(year, 3, 1, 0, 0, 0, 0, time.UTC), time.Date(year, 7, 1, 0, 0, 0, 0, time.UTC), time.Date(year, 12, 31, 0, 0, 0, 0, time.UTC)} {
			for _, off := range []int64{-day - 1, -day, -second, -1, 0, 1, second - 1, second, day - 1, day} {
				if ms := end.UnixMilli() + off; ms >= 0 && ms <= last {
					goes(t, ms, told(ms))
				}
			}
		}
	}
}

func TestDrawnTimes(t *testing.T) {
	rnd := rand.New(rand.NewSource(162))
	for range 50000 {
		ms := rnd.Int63n(last + 1)
		goes(t, ms, told(ms))
		goes(t, ms-ms%second, told(ms-ms%second))
		ms >>= rnd.Intn(48)
		goes(t, ms, told(ms))
	}
}

// P16.1: Parse

func TestParse(t *testing.T) {
	for _, c := range texts {
		reads(t, c.want, c.ms)
	}
	for _, c := range others {
		reads(t, c.s, c.want)
	}
}

func TestParseOfNoTime(t *testing.T) {
	for _, s := range noTexts {
		refuses(t, s)
		if _, ok := judged(s); ok {
			t.Errorf("%s is one", cut(s))
		}
	}
}

// Every number of two digits as each of the parts, in years of each kind.
func TestParseOfEachPart(t *testing.T) {
	for _, year := range []string{"1969", "1970", "1971", "1972", "2000", "2100", "2400", "9996", "9999"} {
		for month := range 100 {
			for d := range 100 {
				judges(t, fmt.Sprintf("%s-%02d-%02dT00:00:00Z", year, month, d))
				judges(t, fmt.Sprintf("%s-%02d-%02dT23:59:59.999Z", year, month, d))
			}
		}
		for h := range 100 {
			for m := range 100 {
				judges(t, fmt.Sprintf("%s-02-28T%02d:%02d:00Z", year, h, m))
				judges(t, fmt.Sprintf("%s-12-31T%02d:00:%02d.000Z", year, h, m))
				judges(t, fmt.Sprintf("%s-01-01T00:%02d:%02d.001Z", year, h, m))
			}
		}
	}
}

func TestParseOfEachYear(t *testing.T) {
	for year := range 10000 {
		for _, rest := range []string{"-01-01T00:00:00Z", "-02-28T23:59:59Z", "-02-29T00:00:00Z", "-02-30T00:00:00Z", "-03-01T00:00:00.000Z", "-12-31T23:59:59.999Z", "-12-32T00:00:00Z"} {
			judges(t, fmt.Sprintf("%04d%s", year, rest))
		}
	}
	for _, year := range []string{"", "0", "1", "20", "197", "999", "10000", "10001", "19700", "99999", "100000", "001970", "2147485618", "4294969266", "18446744073709553586"} {
		refuses(t, year+"-01-01T00:00:00Z")
		refuses(t, year+"-12-31T23:59:59.999Z")
	}
}

// Each byte at each place: what is no digit, what is another sign, what is past a bound.
func TestParseOfEachByte(t *testing.T) {
	for _, s := range wholes {
		for i := range len(s) {
			for c := range 256 {
				judges(t, s[:i]+string([]byte{byte(c)})+s[i+1:])
			}
		}
	}
}

// Texts too short or too long by one byte or by some, at each place.
func TestParseOfOtherLengths(t *testing.T) {
	for _, s := range wholes {
		for i := range len(s) {
			refuses(t, s[:i])
			refuses(t, s[i+1:])
			refuses(t, s[:i]+s[i+1:])
			for c := range 256 {
				judges(t, s[:i]+string([]byte{byte(c)})+s[i:])
			}
			for j := i; j <= len(s); j++ {
				judges(t, s[:i]+s[j:])
				judges(t, s[:j]+s[i:])
			}
		}
		for c := range 256 {
			refuses(t, s+string([]byte{byte(c)}))
			refuses(t, string([]byte{byte(c)})+s)
		}
	}
}

func TestParseOfStrangers(t *testing.T) {
	for _, s := range wholes {
		for _, x := range strangers {
			for i := 0; i <= len(s); i++ {
				judges(t, s[:i]+x+s[i:])
				if i+len(x) <= len(s) {
					judges(t, s[:i]+x+s[i+len(x):])
				}
			}
		}
	}
}

func TestParseOfLongTexts(t *testing.T) {
	for _, n := range []int{25, 100, 300, 301, 1 << 16, 1 << 20} {
		for _, x := range []string{"0", "9", "Z", "T", "-", ".", " ", "\x00", "\xff"} {
			long := strings.Repeat(x, n)
			refuses(t, long)
			for _, s := range wholes {
				refuses(t, s+long)
				refuses(t, long+s)
				refuses(t, s[:19]+"."+long+"Z")
				refuses(t, s[:19]+long+"Z")
				refuses(t, s[:10]+long+s[10:])
			}
		}
		for _, s := range wholes {
			refuses(t, strings.Repeat(s, n/20+1))
		}
	}
}

func TestParseOfDrawnTexts(t *testing.T) {
	rnd := rand.New(rand.NewSource(163))
	for range 30000 {
		s := []byte(wholes[rnd.Intn(len(wholes))])
		for i, c := range s {
			if c >= '0' && c <= '9' && rnd.Intn(3) == 0 {
				s[i] = byte('0' + rnd.Intn(10))
			}
		}
		judges(t, string(s))
		for range 2 {
			s[rnd.Intn(len(s))] = "0123456789-:.TZtz +\x00\xff"[rnd.Intn(21)]
		}
		judges(t, string(s))
		for i := range s {
			s[i] = byte(rnd.Intn(256))
		}
		judges(t, string(s[:rnd.Intn(len(s)+1)]))
	}
}

// P16.2: Parse of Text

// Any number: Parse of its text is the number, if it has one.
func TestParseOfText(t *testing.T) {
	rnd := rand.New(rand.NewSource(164))
	for range 100000 {
		ms := int64(rnd.Uint64()) >> rnd.Intn(64)
		s, ok := when.Text(ms)
		if ok != (ms >= 0 && ms <= last) {
			t.Errorf("Text(%d): %q, %v", ms, s, ok)
		}
		if !ok {
			writesNone(t, ms)
			continue
		}
		reads(t, s, ms)
	}
}

// Times go by their texts' order, byte by byte, as long as both have milliseconds or have none.
func TestOrderOfTexts(t *testing.T) {
	rnd := rand.New(rand.NewSource(165))
	for range 20000 {
		a, b := rnd.Int63n(last/second+1)*second, rnd.Int63n(last/second+1)*second
		if a == b {
			continue
		}
		for _, off := range []int64{0, 7} {
			s, _ := when.Text(a + off)
			u, _ := when.Text(b + off)
			if (a < b) != (s < u) {
				t.Errorf("Text(%d): %s, Text(%d): %s", a+off, s, b+off, u)
			}
		}
	}
}

// R5: what a refused call began is in no later answer.
func TestBehindARefusal(t *testing.T) {
	for _, wrong := range noTexts {
		refuses(t, wrong)
		goes(t, 0, "1970-01-01T00:00:00Z")
		writesNone(t, -1)
		goes(t, 1234567890123, "2009-02-13T23:31:30.123Z")
	}
}
