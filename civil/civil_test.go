package civil

import (
	"fmt"
	"math"
	"strings"
	"testing"
	"time"

	"hourglass/api"
)

const (
	first = -4371587 // -9999-01-01
	last  = 2932896  // 9999-12-31
)

// lengths of the months of a short year.
var lengths = [12]int{31, 28, 31, 30, 31, 30, 31, 31, 30, 31, 30, 31}

// wrong are dates that there are none of.
func wrong() []Date {
	l := []Date{
		{}, {Year: 2000}, {0, 0, 1}, {0, 1, 0}, {1970, 0, 1}, {1970, 13, 1}, {1970, 1, 0}, {1970, -1, 1}, {1970, 1, -1},
		{2023, 2, 29}, {1900, 2, 29}, {2100, 2, 29}, {-1, 2, 29}, {-100, 2, 29}, {2024, 2, 30}, {2000, 2, 30}, {0, 2, 30},
		{-10000, 12, 31}, {-10000, 1, 1}, {10000, 1, 1}, {10000, 12, 31}, {-10000, 2, 29}, {10000, 2, 29}, {20000, 3, 1},
		{2000, 1, 257}, {2000, 257, 1}, {2000, 1 + 1<<32, 1}, {2000, 1, 1 + 1<<32}, {2000 + 1<<32, 1, 1},
	}
	for month, length := range lengths {
		if month == 1 {
			continue
		}
		for _, year := range []int{-9999, -4, 0, 2023, 2024, 9999} {
			l = append(l, Date{year, month + 1, length + 1}, Date{year, month + 1, 0}, Date{year, month + 1, 32})
		}
	}
	for _, far := range []int{math.MinInt, math.MinInt + 1, math.MinInt32, math.MaxInt32, math.MaxInt - 1, math.MaxInt} {
		l = append(l, Date{far, 1, 1}, Date{2000, far, 1}, Date{2000, 1, far}, Date{far, far, far})
	}
	return l
}

// next walks on by one day, by the rule of long years written out.
func next(d Date) Date {
	length := lengths[d.Month-1]
	if d.Month == 2 && d.Year%4 == 0 && (d.Year%100 != 0 || d.Year%400 == 0) {
		length = 29
	}
	switch {
	case d.Day < length:
		return Date{d.Year, d.Month, d.Day + 1}
	case d.Month < 12:
		return Date{d.Year, d.Month + 1, 1}
	}
	return Date{d.Year + 1, 1, 1}
}

// written is a date's text by the library.
func written(d Date) string {
	if d.Year < 0 {
		return fmt.Sprintf("-%04d-%02d-%02d", -d.Year, d.Month, d.Day)
	}
	return fmt.Sprintf("%04d-%02d-%02d", d.Year, d.Month, d.Day)
}

// P4.1: multiples of 4, of 100 and of 400, 0, and years below 0.
func TestLeapForms(t *testing.T) {
	for _, c := range []struct {
		year int
		want bool
	}{
		{0, true}, {1, false}, {2, false}, {3, false}, {4, true}, {8, true}, {96, true}, {100, false}, {104, true},
		{200, false}, {300, false}, {400, true}, {800, true}, {1600, true}, {1700, false}, {1900, false}, {1970, false},
		{2000, true}, {2001, false}, {2002, false}, {2003, false}, {2004, true}, {2023, false}, {2024, true}, {2100, false},
		{9996, true}, {9999, false}, {10000, true}, {10100, false}, {-1, false}, {-2, false}, {-3, false}, {-4, true},
		{-96, true}, {-100, false}, {-200, false}, {-300, false}, {-400, true}, {-404, true}, {-9996, true}, {-9999, false},
		{-10000, true}, {math.MinInt, true}, {math.MinInt + 1, false}, {math.MaxInt, false}, {math.MaxInt - 3, true},
	} {
		if Leap(c.year) != c.want {
			t.Errorf("Leap(%d) = %v", c.year, Leap(c.year))
		}
	}
}

// P4.1: each year of these has a 29th of February, or has none, as the
// library's calendar says.
func TestLeapYears(t *testing.T) {
	for year := -10001; year <= 10001; year++ {
		want := time.Date(year, 2, 29, 0, 0, 0, 0, time.UTC).Month() == time.February
		if Leap(year) != want {
			t.Errorf("Leap(%d) = %v", year, Leap(year))
		}
	}
}

// P4.1: each month's days, in long and in short years.
func TestLength(t *testing.T) {
	for _, c := range []struct{ year, february int }{
		{2023, 28}, {2024, 29}, {2000, 29}, {1900, 28}, {2100, 28}, {1970, 28}, {1, 28}, {0, 29}, {-1, 28}, {-4, 29}, {-100, 28},
		{-400, 29}, {9999, 28}, {-9999, 28}, {9996, 29}, {-9996, 29},
	} {
		for month, want := range lengths {
			if month == 1 {
				want = c.february
			}
			if n := Length(c.year, month+1); n != want {
				t.Errorf("Length(%d, %d) = %d, want %d", c.year, month+1, n, want)
			}
		}
	}
}

// P4.1: months that there are none of have no days, whatever the year.
func TestLengthOfNoMonth(t *testing.T) {
	for _, year := range []int{-9999, -1, 0, 1970, 2000, 2023, 2024, 9999, math.MinInt, math.MaxInt} {
		for _, month := range []int{
			0, 13, 14, 24, 100, -1, -2, -4, -11, -12, 1 + 1<<8, 2 + 1<<16, 2 + 1<<32, 1 - 1<<32,
			math.MinInt32, math.MaxInt32, math.MinInt, math.MinInt + 2, math.MaxInt, math.MaxInt - 1,
		} {
			if n := Length(year, month); n != 0 {
				t.Errorf("Length(%d, %d) = %d", year, month, n)
			}
		}
	}
}

// P4.1: known days: their numbers, dates, texts and places in the week.
func TestKnownDays(t *testing.T) {
	for _, c := range []struct {
		date Date
		days int64
		week int
		text string
	}{
		{Date{1970, 1, 1}, 0, 3, "1970-01-01"}, {Date{1970, 1, 2}, 1, 4, "1970-01-02"}, {Date{1969, 12, 31}, -1, 2, "1969-12-31"},
		{Date{2000, 3, 1}, 11017, 2, "2000-03-01"}, {Date{2000, 2, 29}, 11016, 1, "2000-02-29"}, {Date{2000, 1, 1}, 10957, 5, "2000-01-01"},
		{Date{1900, 2, 28}, -25509, 2, "1900-02-28"}, {Date{1900, 3, 1}, -25508, 3, "1900-03-01"}, {Date{1582, 10, 15}, -141427, 4, "1582-10-15"},
		{Date{1600, 2, 29}, -135081, 1, "1600-02-29"}, {Date{1, 1, 1}, -719162, 0, "0001-01-01"}, {Date{0, 12, 31}, -719163, 6, "0000-12-31"},
		{Date{0, 1, 1}, -719528, 5, "0000-01-01"}, {Date{-1, 12, 31}, -719529, 4, "-0001-12-31"}, {Date{-100, 3, 1}, -755993, 3, "-0100-03-01"},
		{Date{-400, 2, 29}, -865566, 1, "-0400-02-29"}, {Date{-401, 2, 28}, -865932, 6, "-0401-02-28"},
		{Date{-9999, 1, 1}, first, 0, "-9999-01-01"}, {Date{9999, 12, 31}, last, 4, "9999-12-31"},
	} {
		checkDay(t, c.date, c.days, c.week, c.text)
	}
}

// checkDay fails the test unless all calls agree on a day.
func checkDay(t *testing.T, date Date, days int64, week int, text string) {
	t.Helper()
	if n, err := Days(date); n != days || err != api.OK {
		t.Errorf("Days(%v) = %d, %d, want %d", date, n, err, days)
	}
	if d, err := Of(days); d != date || err != api.OK {
		t.Errorf("Of(%d) = %v, %d, want %v", days, d, err, date)
	}
	if w := Weekday(days); w != week {
		t.Errorf("Weekday(%d) = %d, want %d", days, w, week)
	}
	if s := Text(date); s != text {
		t.Errorf("Text(%v) = %q, want %q", date, s, text)
	}
	if d, err := Parse(text); d != date || err != api.OK {
		t.Errorf("Parse(%q) = %v, %d, want %v", text, d, err, date)
	}
}

// P4.1: every day of these years, there and back, walked one by one.
func TestEveryDay(t *testing.T) {
	date, week := Date{-9999, 1, 1}, 0
	for days := int64(first); days <= last; days++ {
		n, err := Days(date)
		d, again := Of(days)
		if n != days || d != date || err != api.OK || again != api.OK || Weekday(days) != week {
			t.Fatalf("day %d, %v: Days %d, %d, Of %v, %d, Weekday %d", days, date, n, err, d, again, Weekday(days))
		}
		date, week = next(date), (week+1)%7
	}
	if date != (Date{10000, 1, 1}) {
		t.Errorf("the walk ended at %v", date)
	}
}

// P4.1: days all over these years, by the library's calendar, and their texts.
func TestDaysByTheLibrary(t *testing.T) {
	for days := int64(first); days <= last; days += 37 {
		at := time.Unix(days*86400, 0).UTC()
		date := Date{at.Year(), int(at.Month()), at.Day()}
		checkDay(t, date, days, (int(at.Weekday())+6)%7, written(date))
	}
}

// P4.1: the first and the last day of each month of each year, and texts.
func TestMonthEnds(t *testing.T) {
	for year := -9999; year <= 9999; year++ {
		for month := 1; month <= 12; month++ {
			for _, day := range []int{1, 9, 10, Length(year, month)} {
				date := Date{year, month, day}
				text := written(date)
				if d, err := Parse(text); Text(date) != text || d != date || err != api.OK {
					t.Fatalf("%v: Text %q, Parse %v, %d", date, Text(date), d, err)
				}
			}
		}
	}
}

// P4.1, R2: what is no date has no number and no text.
func TestNoDate(t *testing.T) {
	for _, d := range wrong() {
		if n, err := Days(d); n != 0 || err != api.EARG {
			t.Errorf("Days(%v) = %d, %d", d, n, err)
		}
		if s := Text(d); s != "" {
			t.Errorf("Text(%v) = %q", d, s)
		}
	}
}

// P4.1: the 29th of February is a date in long years alone.
func TestLongFebruary(t *testing.T) {
	for year := -9999; year <= 9999; year++ {
		n, err := Days(Date{year, 2, 29})
		if long := Leap(year); long != (err == api.OK) || long != (Text(Date{year, 2, 29}) != "") || !long && (n != 0 || err != api.EARG) {
			t.Errorf("%d-02-29: %d, %d", year, n, err)
		}
		if n, err := Days(Date{year, 2, 30}); n != 0 || err != api.EARG {
			t.Errorf("%d-02-30: %d, %d", year, n, err)
		}
	}
}

// P4.1, R2: days outside these years have no date.
func TestNoDay(t *testing.T) {
	for _, days := range []int64{
		first - 1, first - 2, first - 365, first - 366, first - 146097, last + 1, last + 2, last + 365, last + 366, last + 146097,
		first + math.MinInt32*2, last + math.MaxInt32, math.MinInt32, math.MaxInt32, 1 << 32, -1 << 32, 1 << 62, -1 << 62,
		math.MaxInt64 / 400, math.MinInt64 / 400, math.MaxInt64 - 1, math.MaxInt64, math.MinInt64 + 1, math.MinInt64,
	} {
		if d, err := Of(days); d != (Date{}) || err != api.EARG {
			t.Errorf("Of(%d) = %v, %d", days, d, err)
		}
	}
}

// P4.1: the week of days near 0, below it, outside these years and at both
// ends of the type.
func TestWeekday(t *testing.T) {
	for _, c := range []struct {
		days int64
		want int
	}{
		{0, 3}, {1, 4}, {2, 5}, {3, 6}, {4, 0}, {5, 1}, {6, 2}, {7, 3}, {11, 0}, {-1, 2}, {-2, 1}, {-3, 0}, {-4, 6}, {-5, 5}, {-6, 4},
		{-7, 3}, {-8, 2}, {-10, 0}, {-11, 6}, {first - 1, 6}, {last + 1, 5}, {1 << 32, 0}, {-1 << 32, 6},
		{math.MaxInt64, 3}, {math.MaxInt64 - 1, 2}, {math.MaxInt64 - 3, 0}, {math.MaxInt64 - 4, 6},
		{math.MinInt64, 2}, {math.MinInt64 + 1, 3}, {math.MinInt64 + 4, 6}, {math.MinInt64 + 5, 0},
	} {
		if w := Weekday(c.days); w != c.want {
			t.Errorf("Weekday(%d) = %d, want %d", c.days, w, c.want)
		}
	}
}

// P4.1: the week goes on by one from each day to the next, at 0, outside these
// years and at both ends of the type.
func TestWeekdayGoesOn(t *testing.T) {
	for _, start := range []int64{-1000, first - 500, last - 500, math.MinInt64, math.MaxInt64 - 1001} {
		for days := start; days < start+1000; days++ {
			if Weekday(days+1) != (Weekday(days)+1)%7 || Weekday(days) < 0 {
				t.Errorf("Weekday(%d) = %d, Weekday(%d) = %d", days, Weekday(days), days+1, Weekday(days+1))
			}
		}
	}
}

// P4.1: years have four digits, below 0 behind a sign.
func TestTextForms(t *testing.T) {
	for _, c := range []struct {
		date Date
		want string
	}{
		{Date{2000, 1, 2}, "2000-01-02"}, {Date{2000, 11, 30}, "2000-11-30"}, {Date{999, 10, 9}, "0999-10-09"}, {Date{99, 9, 10}, "0099-09-10"},
		{Date{9, 12, 31}, "0009-12-31"}, {Date{0, 2, 29}, "0000-02-29"}, {Date{-9, 1, 1}, "-0009-01-01"}, {Date{-99, 1, 1}, "-0099-01-01"},
		{Date{-999, 1, 1}, "-0999-01-01"}, {Date{-9999, 12, 31}, "-9999-12-31"}, {Date{1000, 1, 1}, "1000-01-01"}, {Date{-1000, 1, 1}, "-1000-01-01"},
	} {
		if s := Text(c.date); s != c.want {
			t.Errorf("Text(%v) = %q, want %q", c.date, s, c.want)
		}
	}
}

// refused fails the test unless a text is no date's.
func refused(t *testing.T, s string) {
	t.Helper()
	if d, err := Parse(s); d != (Date{}) || err != api.EFORM {
		t.Errorf("Parse(%.40q) = %v, %d", s, d, err)
	}
}

// P4.1, R2: texts that are not just the text of a date.
func TestParseRefuses(t *testing.T) {
	for _, s := range []string{
		"", "-", "--", "0", "2000", "2000-01", "2000-01-", "20000101", "2000-1-1", "2000-01-1", "2000-1-01", "200-01-01", "20-01-01",
		"00-01-01", "-01-01", "--01-01", "10000-01-01", "-10000-01-01", "02000-01-01", "002000-01-01", "-02000-01-01", "2000-001-01",
		"2000-01-001", "2000-01-011", "-0000-01-01", "-0000-12-31", "-0000-02-29", "+2000-01-01", "+0000-01-01", "-+200-01-01", "+-200-01-01", "--200-01-01",
		"--2000-01-01", "+200-01-01", "2000-+1-01", "2000-01-+1", "2000--1-01", "2000-01--1", "2000--01-01", "2000-01--01",
		" 2000-01-01", "2000-01-01 ", "2000 -01-01", " 200-01-01", "2000- 1-01", "2000-01- 1", "2000-1 -01", "2000-01-1 ", "\t2000-01-01",
		"2000-01-01\n", "2000-01-01\x00", "\x002000-01-01", "2000/01/01", "2000.01.01", "2000-01/01", "2000/01-01", "2000 01 01", "2000:01:01",
		"2000001001", "-2000001001", "x000-01-01", "2x00-01-01", "20x0-01-01", "200x-01-01", "2000-x1-01", "2000-0x-01", "2000-01-x1", "2000-01-0x",
		"0x00-01-01", "0b01-01-01", "1e03-01-01", "2_00-01-01", "20_0-01-01", "2000-1_-01", "-x000-01-01", "x2000-01-01", "2000-01-01x",
		"2000-00-01", "2000-13-01", "2000-99-01", "2000-01-00", "2000-01-32", "2000-01-99", "2000-04-31", "2001-02-29", "1900-02-29", "2000-02-30",
		"-0001-02-29", "0000-00-00", "0000-01-00", "٢٠٠٠-01-01", "２０００-01-01", "2000‐01‐01", "2000-01-01\xff", "\xff000-01-01",
		"01-01-2000", "Jan-01-01", "2000-01-01T00:00", "2000-01-012000-01-01", "9999999999999999999999-01-01", "-9223372036854775808-01-01",
	} {
		refused(t, s)
	}
	for _, long := range []string{"0", "-", " ", "2000-01-01", "9"} {
		refused(t, strings.Repeat(long, 100000))
		refused(t, strings.Repeat(long, 100000)+"-01-01")
	}
	for _, d := range wrong() {
		refused(t, written(d))
	}
}

// P4.1: one byte of a text changed into any other one, taken away or put in:
// what is told again has just that text, and all else is refused.
func TestParseOfChangedTexts(t *testing.T) {
	for _, s := range []string{"1970-01-01", "2000-02-29", "2001-02-28", "-0400-12-31", "0000-10-10", "-9999-01-01", "9999-12-31"} {
		for at := range len(s) {
			checkText(t, s[:at]+s[at+1:])
			for c := range 256 {
				one := string([]byte{byte(c)})
				checkText(t, s[:at]+one+s[at+1:])
				checkText(t, s[:at]+one+s[at:])
			}
		}
		for c := range 256 {
			checkText(t, s+string([]byte{byte(c)}))
		}
	}
}

// checkText holds Parse against a reading of the text, byte by byte.
func checkText(t *testing.T, s string) {
	t.Helper()
	date, ok := read(s)
	d, err := Parse(s)
	if ok && (d != date || err != api.OK) || !ok && (d != (Date{}) || err != api.EFORM) {
		t.Errorf("Parse(%q) = %v, %d, want %v, %v", s, d, err, date, ok)
	}
}

// read tells the date of a text, byte by byte.
func read(s string) (Date, bool) {
	rest, below := strings.CutPrefix(s, "-")
	if len(rest) != 10 {
		return Date{}, false
	}
	n := [3]int{}
	part := 0
	for i := range len(rest) {
		c := rest[i]
		switch {
		case i == 4 || i == 7:
			if c != '-' {
				return Date{}, false
			}
			part++
		case c < '0' || c > '9':
			return Date{}, false
		default:
			n[part] = n[part]*10 + int(c-'0')
		}
	}
	d := Date{n[0], n[1], n[2]}
	if below {
		d.Year = -d.Year
	}
	at := time.Date(d.Year, time.Month(d.Month), d.Day, 0, 0, 0, 0, time.UTC)
	real := at.Year() == d.Year && int(at.Month()) == d.Month && at.Day() == d.Day
	if !real || below && d.Year == 0 {
		return Date{}, false
	}
	return d, true
}
