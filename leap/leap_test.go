package leap

import (
	"fmt"
	"math"
	"regexp"
	"strconv"
	"strings"
	"testing"
	"time"

	"hourglass/api"
)

const (
	first = -4371587 // -9999-01-01
	last  = 2932896  // 9999-12-31
)

// known is the chapter's table.
const known = "2016-07-01 36\n2017-01-01 37\n"

// steps are days of which each has an offset of its own.
const steps = "1969-12-29 -1\n1969-12-30 0\n1969-12-31 1\n1970-01-01 0\n1970-01-02 -1\n1970-01-03 -2\n1970-01-04 -1\n"

// tables are texts that are well: some of their days are longer, some shorter,
// some neither, ahead of day 0 and behind it, at both ends of the days.
func tables() []string {
	return []string{
		known, steps, "2016-07-01 36\n", "1970-01-01 0\n", "-9999-01-01 0\n", "9999-12-31 0\n", "9999-12-31 9999\n", "9999-12-31 -9999\n",
		"-9999-01-01 9999\n", "-9999-01-01 -9999\n", "-9999-01-01 9998\n-9999-01-02 9999\n-9999-01-03 9998\n",
		"-9999-01-01 -9998\n-9999-01-02 -9999\n-9999-01-03 -9998\n", "9999-12-30 9998\n9999-12-31 9999\n", "9999-12-30 9999\n9999-12-31 9998\n",
		"9999-12-29 -9998\n9999-12-30 -9999\n9999-12-31 -9998\n", "-9999-01-01 1\n9999-12-31 2\n", "-9999-01-01 1\n9999-12-31 0\n",
		"1972-01-01 10\n1972-07-01 11\n1973-01-01 12\n1974-01-01 13\n1975-01-01 12\n", "1969-12-31 9999\n1970-01-01 9998\n1970-01-02 9999\n",
		"1969-12-31 -9999\n1970-01-01 -9998\n1970-01-02 -9999\n", "-0001-12-30 9\n-0001-12-31 10\n0000-01-01 9\n0000-02-29 8\n0000-03-01 9\n",
		"1999-12-31 99\n2000-02-29 100\n2000-03-01 99\n2001-02-28 98\n", "1000-01-01 999\n1000-01-02 1000\n1000-01-03 999\n", "2000-01-01 -100\n2000-01-02 -99\n2000-01-03 -100\n",
		"2000-01-01 -1\n2000-06-01 0\n2000-12-01 1\n2001-06-01 0\n2001-12-01 -1\n", lines(2), lines(59), lines(60),
	}
}

// lines is a table of n lines, a year each.
func lines(n int) string {
	s := ""
	for i := range n {
		s += fmt.Sprintf("%04d-07-01 %d\n", 1940+i, i-30)
	}
	return s
}

// entry is a line, read by the library.
type entry struct {
	day    int64
	offset int
}

// form is a line's, without the rule of which dates there are.
var form = regexp.MustCompile(`^(-?)([0-9]{4})-([0-9]{2})-([0-9]{2}) (0|-?[1-9][0-9]{0,3})$`)

// read reads a table by the library, apart from the limit of lines.
func read(text string) ([]entry, bool) {
	if !strings.HasSuffix(text, "\n") {
		return nil, false
	}
	var table []entry
	for row := range strings.SplitSeq(strings.TrimSuffix(text, "\n"), "\n") {
		parts := form.FindStringSubmatch(row)
		if parts == nil || parts[1] == "-" && parts[2] == "0000" {
			return nil, false
		}
		var n [3]int
		for i := range n {
			n[i], _ = strconv.Atoi(parts[2+i])
		}
		if parts[1] == "-" {
			n[0] = -n[0]
		}
		at := time.Date(n[0], time.Month(n[1]), n[2], 0, 0, 0, 0, time.UTC)
		if at.Year() != n[0] || int(at.Month()) != n[1] || at.Day() != n[2] {
			return nil, false
		}
		offset, _ := strconv.Atoi(parts[5])
		e := entry{at.Unix() / 86400, offset}
		if i := len(table) - 1; i >= 0 && (table[i].day >= e.day || offset != table[i].offset+1 && offset != table[i].offset-1) {
			return nil, false
		}
		table = append(table, e)
	}
	return table, true
}

// offsetOf looks a day up from behind.
func offsetOf(table []entry, day int64) (int, bool) {
	for i := len(table) - 1; i >= 0 && day >= first && day <= last; i-- {
		if table[i].day <= day {
			return table[i].offset, true
		}
	}
	return 0, false
}

// lengthOf counts a day's seconds.
func lengthOf(table []entry, day int64) (int, bool) {
	here, ok := offsetOf(table, day)
	for _, e := range table {
		if ok && e.day == day+1 {
			return 86400 + e.offset - here, true
		}
	}
	if !ok {
		return 0, false
	}
	return 86400, true
}

// made parses a table that is well.
func made(t *testing.T, text string) (*Table, []entry) {
	t.Helper()
	table, ok := read(text)
	x, err := Parse(text)
	if !ok || err != api.OK || x == nil {
		t.Fatalf("Parse(%q) = %v, %d", text, x, err)
	}
	return x, table
}

// refused fails the test unless a text is no table, by this error.
func refused(t *testing.T, text string, want api.Errno) {
	t.Helper()
	if x, err := Parse(text); x != nil || err != want {
		t.Errorf("Parse(%.60q) = %v, %d, want %d", text, x, err, want)
	}
}

// P5.1: each table's text is the text that it came of, however often asked.
func TestText(t *testing.T) {
	for _, text := range tables() {
		x, _ := made(t, text)
		for range 2 {
			if s := x.Text(); s != text {
				t.Errorf("Text of %q: %q", text, s)
			}
		}
	}
}

// P5.1: all offsets of up to four digits, and no others.
func TestOffsetsOfOneLine(t *testing.T) {
	for n := -10050; n <= 10050; n++ {
		text := fmt.Sprintf("2016-07-01 %d\n", n)
		if n < -9999 || n > 9999 {
			refused(t, text, api.EFORM)
			continue
		}
		x, _ := made(t, text)
		if o, err := x.Offset(16983); o != n || err != api.OK || x.Text() != text {
			t.Errorf("%q: Offset %d, %d, Text %q", text, o, err, x.Text())
		}
	}
}

// P5.1: all steps from one line to the next: one up and one down are well.
func TestSteps(t *testing.T) {
	for _, from := range []int{-9999, -9998, -100, -3, -2, -1, 0, 1, 2, 3, 36, 100, 9998, 9999} {
		for step := -12; step <= 12; step++ {
			text := fmt.Sprintf("2016-07-01 %d\n2017-01-01 %d\n", from, from+step)
			if to := from + step; (step == 1 || step == -1) && to >= -9999 && to <= 9999 {
				made(t, text)
			} else {
				refused(t, text, api.EFORM)
			}
		}
	}
	for _, text := range []string{
		"2016-07-01 36\n2017-01-01 -36\n", "2016-07-01 36\n2017-01-01 -37\n", "2016-07-01 0\n2017-01-01 9999\n", "2016-07-01 -9999\n2017-01-01 9999\n",
		"2016-07-01 36\n2017-01-01 37\n2017-07-01 37\n", "2016-07-01 36\n2017-01-01 37\n2017-07-01 39\n", "2016-07-01 36\n2017-01-01 37\n2017-07-01 35\n",
		"2016-07-01 36\n2017-01-01 38\n2017-07-01 37\n",
	} {
		refused(t, text, api.EFORM)
	}
}

// P5.1: dates rise from each line to the next.
func TestDatesRise(t *testing.T) {
	dates := []string{
		"-9999-01-01", "-9999-12-31", "-0002-01-01", "-0001-01-01", "-0001-12-31", "0000-01-01", "0000-02-29", "0001-01-01",
		"1969-12-31", "1970-01-01", "1970-01-02", "1999-12-31", "2000-01-01", "2000-10-09", "2000-11-08", "9999-12-30", "9999-12-31",
	}
	for i, a := range dates {
		for j, b := range dates {
			for _, step := range []string{"5", "7"} {
				text := a + " 6\n" + b + " " + step + "\n"
				if i < j {
					made(t, text)
				} else {
					refused(t, text, api.EFORM)
				}
			}
		}
	}
	refused(t, "2016-07-01 36\n2017-01-01 37\n2016-12-31 38\n", api.EFORM)
	refused(t, "2016-07-01 36\n2017-01-01 37\n2017-01-01 38\n", api.EFORM)
	refused(t, "2017-01-01 36\n2016-07-01 37\n2018-01-01 38\n", api.EFORM)
}

// P5.1: 60 lines are well, 61 are too many, whatever stands in them.
func TestLinesLimit(t *testing.T) {
	made(t, lines(60))
	for _, n := range []int{61, 62, 100, 1000} {
		refused(t, lines(n), api.ELIMIT)
		refused(t, lines(n)+"2999-01-01 1", api.ELIMIT)
		refused(t, strings.Repeat("\n", n), api.ELIMIT)
		refused(t, strings.Repeat("x\n", n), api.ELIMIT)
		refused(t, strings.Repeat("2016-07-01 36\n", n), api.ELIMIT)
	}
	refused(t, lines(60)+"\n", api.ELIMIT)
	refused(t, "\n"+lines(60), api.ELIMIT)
	refused(t, "x"+lines(61), api.ELIMIT)
	refused(t, lines(59)+"\n\n", api.ELIMIT)
	refused(t, strings.Repeat("\n", 60), api.EFORM)
	refused(t, strings.Repeat("x\n", 60), api.EFORM)
	refused(t, lines(59)+"\n", api.EFORM)
	refused(t, lines(59)+"x\n", api.EFORM)
	refused(t, lines(59)+"x", api.EFORM)
}

// P5.1: a line is what a byte 10 ends: what stands behind the last one is not
// counted, but is not as told.
func TestLastLineWithoutItsEnd(t *testing.T) {
	for _, text := range tables() {
		refused(t, strings.TrimSuffix(text, "\n"), api.EFORM)
		refused(t, text+"x", api.EFORM)
		refused(t, text+" ", api.EFORM)
	}
	refused(t, lines(60)+"x", api.EFORM)
	refused(t, strings.TrimSuffix(lines(61), "\n"), api.EFORM)
}

// P5.1, R2: texts that are not just as told.
func TestParseRefuses(t *testing.T) {
	for _, text := range []string{
		"", "\n", "\n\n", " ", " \n", "x", "x\n", "36", "36\n", " 36\n", "2016-07-01", "2016-07-01\n", "2016-07-01 ", "2016-07-01 \n", "2016-07-01 36",
		"2016-07-01 36\n\n", "\n2016-07-01 36\n", "2016-07-01 36\n\n2017-01-01 37\n", "2016-07-01 36\n2017-01-01 37\n\n", "2016-07-01 36\n2017-01-01 37",
		"2016-07-01  36\n", " 2016-07-01 36\n", "2016-07-01 36 \n", "2016-07-01 36  \n", "2016-07-01 36 37\n", "2016-07-01 36 2017-01-01 37\n",
		"2016-07-01\t36\n", "2016-07-01 \t36\n", "2016-07-01 36\t\n", "2016-07-01 36\r\n", "2016-07-01 36\r", "2016-07-01 36\x00\n", "2016-07-01\n36\n", "2016-07-0136\n",
		"2016-07-01,36\n", "2016-07-01=36\n", "36 2016-07-01\n", "2016-07-01 36\n2017-01-01  37\n", "2016-07-01 36\n 2017-01-01 37\n",
		"2016-07-01 036\n", "2016-07-01 0036\n", "2016-07-01 00\n", "2016-07-01 000\n", "2016-07-01 01\n", "2016-07-01 -01\n", "2016-07-01 -036\n", "2016-07-01 00036\n",
		"2016-07-01 -0\n", "2016-07-01 +0\n", "2016-07-01 +1\n", "2016-07-01 +36\n", "2016-07-01 -\n", "2016-07-01 +\n", "2016-07-01 --1\n", "2016-07-01 -+1\n",
		"2016-07-01 - 1\n", "2016-07-01 1-\n", "2016-07-01 10000\n", "2016-07-01 -10000\n", "2016-07-01 12345\n", "2016-07-01 00001\n", "2016-07-01 99999\n",
		"2016-07-01 4294967332\n", "2016-07-01 9223372036854775807\n", "2016-07-01 -9223372036854775808\n", "2016-07-01 18446744073709551652\n",
		"2016-07-01 3x\n", "2016-07-01 x3\n", "2016-07-01 0x1\n", "2016-07-01 1e1\n", "2016-07-01 1_0\n", "2016-07-01 1.0\n", "2016-07-01 ٣\n", "2016-07-01 ３\n",
		"2001-02-29 36\n", "1900-02-29 36\n", "2016-07-32 36\n", "2016-07-00 36\n", "2016-13-01 36\n", "2016-00-01 36\n", "10000-01-01 36\n", "-10000-12-31 36\n",
		"-0000-01-01 36\n", "+2016-07-01 36\n", "2016-7-1 36\n", "16-07-01 36\n", "02016-07-01 36\n", "2016/07/01 36\n", "20160701 36\n", "2016-07-01T 36\n",
		"2016-07-01 36\n2017-02-29 37\n", "9999-12-31 36\n10000-01-01 37\n", "2016-07-01 36\n2017-01-01 037\n", "2016-07-01 -1\n2017-01-01 -0\n",
		"2016-07-01 9999\n2017-01-01 10000\n", "2016-07-01 -9999\n2017-01-01 -10000\n",
	} {
		refused(t, text, api.EFORM)
	}
	for _, long := range []string{"0", "9", "-", " ", "2016-07-01 36", "x"} {
		refused(t, strings.Repeat(long, 100000), api.EFORM)
		refused(t, strings.Repeat(long, 100000)+"\n", api.EFORM)
		refused(t, "2016-07-01 "+strings.Repeat(long, 100000)+"\n", api.EFORM)
		refused(t, strings.Repeat(long, 100000)+" 36\n", api.EFORM)
	}
}

// P5.1: one byte of a text changed into any other one, taken away or put in.
func TestParseOfChangedTexts(t *testing.T) {
	for _, text := range []string{known, "2000-02-29 0\n", "-0001-12-31 -9\n0000-01-01 -10\n", "9999-12-30 9998\n9999-12-31 9999\n"} {
		for at := range len(text) {
			checkText(t, text[:at]+text[at+1:])
			checkText(t, text[:at])
			for c := range 256 {
				one := string([]byte{byte(c)})
				checkText(t, text[:at]+one+text[at+1:])
				checkText(t, text[:at]+one+text[at:])
				checkText(t, text+one)
			}
		}
	}
}

// checkText holds Parse and Text against the library's reading.
func checkText(t *testing.T, text string) {
	t.Helper()
	if _, ok := read(text); !ok {
		refused(t, text, api.EFORM)
		return
	}
	if x, err := Parse(text); err != api.OK || x == nil || x.Text() != text {
		t.Errorf("Parse(%q) = %v, %d", text, x, err)
	}
}

// P5.1: the chapter's table, day by day around its dates.
func TestKnownDays(t *testing.T) {
	x, _ := made(t, known)
	for _, c := range []struct {
		day            int64
		offset, length int
	}{
		{16983, 36, 86400}, {16984, 36, 86400}, {17000, 36, 86400}, {17165, 36, 86400}, {17166, 36, 86401}, {17167, 37, 86400}, {17168, 37, 86400},
		{20000, 37, 86400}, {last - 1, 37, 86400}, {last, 37, 86400},
	} {
		checkDay(t, x, c.day, c.offset, c.length, api.OK)
	}
	for _, day := range noDays(16983) {
		checkDay(t, x, day, 0, 0, api.ENONE)
	}
}

// P5.1: days of 86399, 86400 and 86401 seconds behind one another.
func TestDaysOfEachLength(t *testing.T) {
	x, _ := made(t, steps)
	for i, c := range []struct{ offset, length int }{
		{-1, 86401}, {0, 86401}, {1, 86399}, {0, 86399}, {-1, 86399}, {-2, 86401}, {-1, 86400}, {-1, 86400},
	} {
		checkDay(t, x, int64(i-3), c.offset, c.length, api.OK)
	}
	for _, day := range noDays(-3) {
		checkDay(t, x, day, 0, 0, api.ENONE)
	}
}

// noDays are days that a table which begins at a day does not know.
func noDays(start int64) []int64 {
	return []int64{
		start - 1, start - 2, start - 366, first, first - 1, first - 2, last + 1, last + 2, last + 366, 1 << 32, -1 << 32, start + 1<<32, start - 1<<32,
		math.MinInt32, math.MaxInt32, math.MaxInt64 / 86400, math.MinInt64 / 86400, math.MaxInt64/86400 + 1, 1 << 62, -1 << 62,
		math.MinInt64, math.MinInt64 + 1, math.MaxInt64 - 1, math.MaxInt64,
	}
}

// checkDay fails the test unless a day has this offset and this length.
func checkDay(t *testing.T, x *Table, day int64, offset, length int, want api.Errno) {
	t.Helper()
	if o, err := x.Offset(day); o != offset || err != want {
		t.Errorf("%q: Offset(%d) = %d, %d, want %d, %d", x.Text(), day, o, err, offset, want)
	}
	if n, err := x.Length(day); n != length || err != want {
		t.Errorf("%q: Length(%d) = %d, %d, want %d, %d", x.Text(), day, n, err, length, want)
	}
}

// P5.1: offsets and lengths at the ends of all days: a table may know them
// all, and the last day has no day behind it that could change it.
func TestEndsOfDays(t *testing.T) {
	for _, c := range []struct {
		text           string
		day            int64
		offset, length int
		err            api.Errno
	}{
		{"-9999-01-01 5\n-9999-01-02 6\n", first, 5, 86401, 0}, {"-9999-01-01 5\n-9999-01-02 4\n", first, 5, 86399, 0}, {"-9999-01-01 5\n", first, 5, 86400, 0},
		{"-9999-01-01 5\n", first - 1, 0, 0, api.ENONE}, {"-9999-01-02 5\n", first, 0, 0, api.ENONE}, {"-9999-01-01 5\n", last, 5, 86400, 0},
		{"-9999-01-01 5\n", last + 1, 0, 0, api.ENONE}, {"9999-12-31 5\n", last, 5, 86400, 0}, {"9999-12-31 5\n", last - 1, 0, 0, api.ENONE},
		{"9999-12-31 5\n", last + 1, 0, 0, api.ENONE}, {"9999-12-30 5\n9999-12-31 6\n", last - 1, 5, 86401, 0}, {"9999-12-30 5\n9999-12-31 6\n", last, 6, 86400, 0},
		{"9999-12-30 5\n9999-12-31 4\n", last - 1, 5, 86399, 0}, {"9999-12-30 5\n9999-12-31 4\n", last, 4, 86400, 0}, {"9999-12-30 -9998\n9999-12-31 -9999\n", last, -9999, 86400, 0},
	} {
		x, _ := made(t, c.text)
		checkDay(t, x, c.day, c.offset, c.length, c.err)
	}
}

// around are a table's dates, the days near them, and the ends of all days.
func around(table []entry) []int64 {
	days := []int64{first - 1, first, first + 1, last - 1, last, last + 1, -1, 0, 1, math.MinInt64, math.MaxInt64}
	for _, e := range table {
		for near := int64(-3); near <= 3; near++ {
			days = append(days, e.day+near)
		}
		days = append(days, e.day-100, e.day+100)
	}
	return days
}

// P5.1: each table's days, held against its lines.
func TestDaysOfTables(t *testing.T) {
	for _, text := range tables() {
		x, table := made(t, text)
		for _, day := range around(table) {
			offset, ok := offsetOf(table, day)
			length, _ := lengthOf(table, day)
			want := api.OK
			if !ok {
				want = api.ENONE
			}
			checkDay(t, x, day, offset, length, want)
		}
	}
}

// checkSecond fails the test unless a second has this number, and the number
// this text.
func checkSecond(t *testing.T, x *Table, day int64, sec int, want int64, text string) {
	t.Helper()
	if n, err := x.TAI(day, sec); n != want || err != api.OK {
		t.Errorf("%q: TAI(%d, %d) = %d, %d, want %d", x.Text(), day, sec, n, err, want)
	}
	if d, s, err := x.UTC(want); d != day || s != sec || err != api.OK {
		t.Errorf("%q: UTC(%d) = %d, %d, %d, want %d, %d", x.Text(), want, d, s, err, day, sec)
	}
	if s := x.Clock(want); s != text {
		t.Errorf("%q: Clock(%d) = %q, want %q", x.Text(), want, s, text)
	}
}

// noSecond fails the test unless a number is no second's.
func noSecond(t *testing.T, x *Table, tai int64) {
	t.Helper()
	if day, sec, err := x.UTC(tai); day != 0 || sec != 0 || err != api.ENONE {
		t.Errorf("%q: UTC(%d) = %d, %d, %d", x.Text(), tai, day, sec, err)
	}
	if s := x.Clock(tai); s != "" {
		t.Errorf("%q: Clock(%d) = %q", x.Text(), tai, s)
	}
}

// P5.2: known seconds: the first of all, those around one put in and one left
// out, in long and in short days, below 0, and the last of all.
func TestKnownSeconds(t *testing.T) {
	for _, c := range []struct {
		text  string
		day   int64
		sec   int
		tai   int64
		clock string
	}{
		{known, 16983, 0, 1467331236, "2016-07-01T00:00:00Z"}, {known, 17166, 86398, 1483228834, "2016-12-31T23:59:58Z"},
		{known, 17166, 86399, 1483228835, "2016-12-31T23:59:59Z"}, {known, 17166, 86400, 1483228836, "2016-12-31T23:59:60Z"},
		{known, 17167, 0, 1483228837, "2017-01-01T00:00:00Z"}, {known, 17167, 1, 1483228838, "2017-01-01T00:00:01Z"},
		{known, 17167, 59, 1483228896, "2017-01-01T00:00:59Z"}, {known, 17167, 60, 1483228897, "2017-01-01T00:01:00Z"},
		{known, 17167, 3599, 1483232436, "2017-01-01T00:59:59Z"}, {known, 17167, 3600, 1483232437, "2017-01-01T01:00:00Z"},
		{known, 17167, 45296, 1483274133, "2017-01-01T12:34:56Z"}, {known, 17167, 86399, 1483315236, "2017-01-01T23:59:59Z"},
		{known, last, 86399, 253402300836, "9999-12-31T23:59:59Z"},
		{steps, -3, 0, -259201, "1969-12-29T00:00:00Z"}, {steps, -3, 86400, -172801, "1969-12-29T23:59:60Z"}, {steps, -2, 0, -172800, "1969-12-30T00:00:00Z"},
		{steps, -2, 86400, -86400, "1969-12-30T23:59:60Z"}, {steps, -1, 0, -86399, "1969-12-31T00:00:00Z"}, {steps, -1, 86398, -1, "1969-12-31T23:59:58Z"},
		{steps, 0, 0, 0, "1970-01-01T00:00:00Z"}, {steps, 0, 86398, 86398, "1970-01-01T23:59:58Z"}, {steps, 1, 0, 86399, "1970-01-02T00:00:00Z"},
		{steps, 1, 86398, 172797, "1970-01-02T23:59:58Z"}, {steps, 2, 0, 172798, "1970-01-03T00:00:00Z"}, {steps, 2, 86400, 259198, "1970-01-03T23:59:60Z"},
		{steps, 3, 0, 259199, "1970-01-04T00:00:00Z"}, {steps, 3, 86399, 345598, "1970-01-04T23:59:59Z"}, {steps, 4, 0, 345599, "1970-01-05T00:00:00Z"},
		{"-9999-01-01 -9999\n", first, 0, -377705126799, "-9999-01-01T00:00:00Z"}, {"-9999-01-01 9999\n", first, 0, -377705106801, "-9999-01-01T00:00:00Z"},
		{"-0001-12-31 5\n0000-01-01 6\n", -719529, 86400, -62167219195, "-0001-12-31T23:59:60Z"}, {"-0001-12-31 5\n", -719529, 36, -62167305559, "-0001-12-31T00:00:36Z"},
		{"9999-12-31 9999\n", last, 86399, 253402310798, "9999-12-31T23:59:59Z"}, {"9999-12-31 -9999\n", last, 0, 253402204401, "9999-12-31T00:00:00Z"},
		{"0000-02-29 0\n", -719469, 86399, -62162035201, "0000-02-29T23:59:59Z"},
	} {
		x, _ := made(t, c.text)
		checkSecond(t, x, c.day, c.sec, c.tai, c.clock)
	}
}

// P5.2: every second of five days around a put-in and a left-out one: each is
// one more than the one ahead, and is told again.
func TestEverySecond(t *testing.T) {
	for _, text := range []string{known, steps, "1969-12-31 9999\n1970-01-01 9998\n1970-01-02 9999\n", "1969-12-31 -9999\n1970-01-01 -9998\n1970-01-02 -9999\n"} {
		x, table := made(t, text)
		start := table[len(table)-1].day - 2
		tai, _ := x.TAI(start, 0)
		for day := start; day < start+5; day++ {
			length, _ := lengthOf(table, day)
			for sec := range length {
				n, err := x.TAI(day, sec)
				d, s, none := x.UTC(tai)
				if n != tai || err != api.OK || d != day || s != sec || none != api.OK {
					t.Fatalf("%q: TAI(%d, %d) = %d, %d, UTC(%d) = %d, %d, %d", text, day, sec, n, err, tai, d, s, none)
				}
				tai++
			}
		}
	}
}

// P5.2: every second of a day of each length has its hands.
func TestClockOfEverySecond(t *testing.T) {
	x, table := made(t, steps)
	for _, day := range []int64{-2, -1, 3} {
		length, _ := lengthOf(table, day)
		date := time.Unix(day*86400, 0).UTC().Format("2006-01-02")
		for sec := range length {
			want := time.Unix(int64(sec), 0).UTC().Format("15:04:05")
			if sec == 86400 {
				want = "23:59:60"
			}
			tai, _ := x.TAI(day, sec)
			if s := x.Clock(tai); s != date+"T"+want+"Z" {
				t.Fatalf("Clock(%d) = %q, want %s, %s", tai, s, date, want)
			}
		}
	}
}

// P5.2: the first and the last seconds of days of each table.
func TestSecondsOfTables(t *testing.T) {
	for _, text := range tables() {
		x, table := made(t, text)
		for _, day := range around(table) {
			offset, ok := offsetOf(table, day)
			length, _ := lengthOf(table, day)
			for _, sec := range []int{0, 1, 9998, 9999, 10000, 43199, 43200, 76400, 76401, 76402, length - 2, length - 1} {
				if !ok {
					break
				}
				at := time.Unix(day*86400+int64(min(sec, 86399)), 0).UTC()
				clock := at.Format("2006-01-02T15:04:05Z")
				if sec == 86400 {
					clock = at.Format("2006-01-02T15:04:") + "60Z"
				}
				checkSecond(t, x, day, sec, at.Unix()+int64(max(sec-86399, 0)+offset), clock)
			}
		}
	}
}

// P5.2, R2: seconds below 0 and behind a day's last one are none.
func TestWrongSeconds(t *testing.T) {
	for _, text := range tables() {
		x, table := made(t, text)
		for _, day := range around(table) {
			length, ok := lengthOf(table, day)
			want := api.EARG
			if !ok {
				want = api.ENONE
			}
			for _, sec := range []int{
				-1, -2, -86400, length, length + 1, length + 86400, 86401, 86402, 1 << 32, -1 << 32, 1<<32 + 1,
				math.MinInt32, math.MaxInt32, math.MinInt, math.MinInt + 1, math.MaxInt - 1, math.MaxInt,
			} {
				if sec == 0 {
					continue
				}
				if n, err := x.TAI(day, sec); n != 0 || err != want {
					t.Errorf("%q: TAI(%d, %d) = %d, %d, want %d", text, day, sec, n, err, want)
				}
			}
		}
	}
}

// P5.2, R2, R6: days that a table does not know have no second, also where
// the second is wrong.
func TestSecondsOfNoDay(t *testing.T) {
	x, _ := made(t, known)
	for _, day := range noDays(16983) {
		for _, sec := range []int{0, 1, 86398, 86399, 86400, 86401, -1, math.MinInt, math.MaxInt} {
			if n, err := x.TAI(day, sec); n != 0 || err != api.ENONE {
				t.Errorf("TAI(%d, %d) = %d, %d", day, sec, n, err)
			}
		}
	}
}

// P5.2, R2: numbers ahead of the first second and behind the last are none's;
// just within them all are some second's.
func TestNoSecond(t *testing.T) {
	for _, text := range tables() {
		x, table := made(t, text)
		from := table[0].day*86400 + int64(table[0].offset)
		to := int64(last)*86400 + 86399 + int64(table[len(table)-1].offset)
		for _, far := range []int64{1, 2, 59, 60, 3600, 9998, 9999, 10000, 19998, 86399, 86400, 86401, 172800, 259200, 1 << 32, 1 << 60} {
			noSecond(t, x, from-far)
			noSecond(t, x, to+far)
		}
		for _, tai := range []int64{math.MinInt64, math.MinInt64 + 1, math.MinInt64 + 86400, math.MaxInt64 - 86400, math.MaxInt64 - 1, math.MaxInt64, 1 << 62, -1 << 62} {
			noSecond(t, x, tai)
		}
		for _, tai := range []int64{from, from + 1, to - 1, to} {
			day, sec, err := x.UTC(tai)
			if n, again := x.TAI(day, sec); err != api.OK || n != tai || again != api.OK || len(x.Clock(tai)) < 20 {
				t.Errorf("%q: UTC(%d) = %d, %d, %d", text, tai, day, sec, err)
			}
		}
	}
}

// R3, R5: what is asked of a table leaves it as it was, and tables do not
// touch one another.
func TestTablesApart(t *testing.T) {
	x, _ := made(t, known)
	y, _ := made(t, steps)
	for _, day := range append(noDays(16983), 17166, 17167, 0, -3) {
		x.TAI(day, -1)
		y.TAI(day, 86400)
		x.UTC(day)
		y.Clock(day)
		refused(t, known+"x", api.EFORM)
	}
	if x.Text() != known || y.Text() != steps {
		t.Errorf("%q, %q", x.Text(), y.Text())
	}
	checkDay(t, x, 17166, 36, 86401, api.OK)
	checkDay(t, y, 17166, -1, 86400, api.OK)
}
