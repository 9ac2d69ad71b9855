package date_test

import (
	"math"
	"strconv"
	"testing"
	"time"

	"poundage/api"
	"poundage/date"
)

// count: how many days there are, of the years 1 to 9999.
const count = 3652059

// known: a day, its number and its text.
type known struct {
	day    api.Date
	number int
	text   string
}

// days: the document's own, the ends, and days about the ends of months, leap years and hundreds of years.
var days = []known{
	{api.Date{Year: 1, Month: 1, Day: 1}, 0, "0001-01-01"}, {api.Date{Year: 1, Month: 1, Day: 2}, 1, "0001-01-02"}, {api.Date{Year: 1, Month: 1, Day: 31}, 30, "0001-01-31"},
	{api.Date{Year: 1, Month: 2, Day: 1}, 31, "0001-02-01"}, {api.Date{Year: 1, Month: 12, Day: 31}, 364, "0001-12-31"}, {api.Date{Year: 2, Month: 1, Day: 1}, 365, "0002-01-01"},
	{api.Date{Year: 4, Month: 2, Day: 29}, 1154, "0004-02-29"}, {api.Date{Year: 4, Month: 12, Day: 31}, 1460, "0004-12-31"}, {api.Date{Year: 5, Month: 1, Day: 1}, 1461, "0005-01-01"},
	{api.Date{Year: 100, Month: 2, Day: 28}, 36217, "0100-02-28"}, {api.Date{Year: 100, Month: 3, Day: 1}, 36218, "0100-03-01"},
	{api.Date{Year: 400, Month: 12, Day: 31}, 146096, "0400-12-31"}, {api.Date{Year: 401, Month: 1, Day: 1}, 146097, "0401-01-01"},
	{api.Date{Year: 1582, Month: 10, Day: 10}, 577730, "1582-10-10"}, {api.Date{Year: 1970, Month: 1, Day: 1}, 719162, "1970-01-01"},
	{api.Date{Year: 1999, Month: 12, Day: 31}, 730118, "1999-12-31"}, {api.Date{Year: 2000, Month: 2, Day: 29}, 730178, "2000-02-29"},
	{api.Date{Year: 2024, Month: 2, Day: 29}, 738944, "2024-02-29"}, {api.Date{Year: 2024, Month: 3, Day: 1}, 738945, "2024-03-01"},
	{api.Date{Year: 9999, Month: 12, Day: 30}, 3652057, "9999-12-30"}, {api.Date{Year: 9999, Month: 12, Day: 31}, 3652058, "9999-12-31"},
}

// noDays: what is no day, by its year, its month, its day, or all of them.
var noDays = []api.Date{
	{}, {Year: 0, Month: 1, Day: 1}, {Year: 0, Month: 2, Day: 29}, {Year: -1, Month: 1, Day: 1}, {Year: -4, Month: 2, Day: 29}, {Year: 10000, Month: 1, Day: 1},
	{Year: math.MinInt, Month: 1, Day: 1}, {Year: math.MaxInt, Month: 12, Day: 31}, {Year: math.MaxInt - 3, Month: 2, Day: 29},
	{Year: 2024, Month: 0, Day: 1}, {Year: 2024, Month: 0, Day: 0}, {Year: 2024, Month: -1, Day: 1}, {Year: 2024, Month: 13, Day: 1}, {Year: 2024, Month: 13, Day: 0},
	{Year: 2024, Month: math.MinInt, Day: 1}, {Year: 2024, Month: math.MaxInt, Day: 1}, {Year: 2024, Month: 12 + 256, Day: 1},
	{Year: 2024, Month: 1, Day: 0}, {Year: 2024, Month: 1, Day: -1}, {Year: 2024, Month: 1, Day: 32}, {Year: 2024, Month: 1, Day: math.MinInt}, {Year: 2024, Month: 1, Day: math.MaxInt},
	{Year: 2023, Month: 2, Day: 29}, {Year: 2024, Month: 2, Day: 30}, {Year: 1900, Month: 2, Day: 29}, {Year: 2000, Month: 2, Day: 30},
	{Year: 2024, Month: 4, Day: 31}, {Year: 2024, Month: 6, Day: 31}, {Year: 2024, Month: 9, Day: 31}, {Year: 2024, Month: 11, Day: 31}, {Year: 2024, Month: 12, Day: 32},
}

// P3.1: Leap, of any number.
func TestLeap(t *testing.T) {
	for year, want := range map[int]bool{
		2024: true, 2023: false, 2022: false, 2026: false, 1900: false, 2100: false, 2000: true, 1600: true, 4: true, 1: false, 100: false, 400: true, 9999: false, 9996: true,
		0: true, -1: false, -2: false, -4: true, -100: false, -400: true, 10000: true, 10100: false,
		math.MinInt: true, math.MinInt + 1: false, math.MaxInt: false, math.MaxInt - 3: true,
	} {
		if date.Leap(year) != want {
			t.Errorf("%d: %v", year, !want)
		}
	}
}

// P3.1: Days, of all months, of any year, and of months that there aren't.
func TestDays(t *testing.T) {
	want := [12]int{31, 28, 31, 30, 31, 30, 31, 31, 30, 31, 30, 31}
	for _, year := range []int{math.MinInt, -401, -400, -100, -4, -1, 0, 1, 4, 100, 400, 1900, 2000, 2023, 2024, 9999, 10000, 10100, math.MaxInt - 3, math.MaxInt} {
		for i, n := range want {
			if i == 1 && date.Leap(year) {
				n = 29
			}
			if got := date.Days(year, i+1); got != n {
				t.Errorf("%d, %d: %d, not %d", year, i+1, got, n)
			}
		}
		for _, month := range []int{math.MinInt, -12, -2, -1, 0, 13, 14, 24, 256 + 2, math.MaxInt} {
			if got := date.Days(year, month); got != 0 {
				t.Errorf("%d, %d: %d", year, month, got)
			}
		}
	}
}

// P3.1: Good, Number, Of, Text and Parse of known days.
func TestKnownDays(t *testing.T) {
	for _, k := range days {
		if !date.Good(k.day) {
			t.Errorf("%v isn't good", k.day)
		}
		if n, ok := date.Number(k.day); n != k.number || !ok {
			t.Errorf("number of %v: %d, %v, not %d", k.day, n, ok, k.number)
		}
		if d, ok := date.Of(k.number); d != k.day || !ok {
			t.Errorf("day of %d: %v, %v, not %v", k.number, d, ok, k.day)
		}
		if s := date.Text(k.day); s != k.text {
			t.Errorf("text of %v: %s, not %s", k.day, s, k.text)
		}
		if d, ok := date.Parse(k.text); d != k.day || !ok {
			t.Errorf("day of %s: %v, %v, not %v", k.text, d, ok, k.day)
		}
	}
}

// P3.1: Good, Number and Text where there is no such day.
func TestNoDay(t *testing.T) {
	for _, d := range noDays {
		if date.Good(d) {
			t.Errorf("%v is good", d)
		}
		if n, ok := date.Number(d); n != 0 || ok {
			t.Errorf("number of %v: %d, %v", d, n, ok)
		}
		if s := date.Text(d); s != "" {
			t.Errorf("text of %v: %s", d, s)
		}
	}
}

// P3.1: Of, of numbers of which there is no day.
func TestNoDayOfNumber(t *testing.T) {
	for _, n := range []int{math.MinInt, -146097, -366, -365, -2, -1, count, count + 1, count + 366, 1 << 32, math.MaxInt - 1, math.MaxInt} {
		if d, ok := date.Of(n); ok || d != (api.Date{}) {
			t.Errorf("%d: %v, %v", n, d, ok)
		}
	}
}

// P3.1: Parse, of texts that are no day's.
func TestNoDayOfText(t *testing.T) {
	for _, s := range []string{
		"", "-", "--", "2024", "2024-02", "2024-02-", "2024-02-2", "2024-02-012", "02024-02-01", "2024-2-01", "2024-02-1 ", " 2024-02-01", "2024-02-01 ", "2024-02-01\n", "2024-02-01\x00",
		"2024/02/01", "2024-02/01", "2024/02-01", "2024.02-01", "20240201", "2024--0201", "20240-2-01", "2024-020-1", "2024_02_01", "202400201-", "2024002001", "-024-02-01", "-2024-02-01", "+024-02-01", "2024-+2-01", "2024--2-01", "2024-02-+1", "2024-02--1",
		"20a4-01-01", "2024-0a-01", "2024-01-0a", "a024-01-01", "2024-a1-01", "2024-01-a1", "202x-01-01", "2024-1x-01", "2024-01-1x", "20/4-01-01", "20:4-01-01", "2024-0:-01", "2024-01-0/", "0x24-01-01", "2_24-01-01", "1e03-01-01", " 024-01-01", "2024- 1-01", "2024-01- 1",
		"0000-01-01", "0000-00-00", "2024-00-01", "2024-13-01", "2024-01-00", "2024-01-32", "2023-02-29", "1900-02-29", "2024-02-30", "2024-04-31", "2024-99-99", "9999-12-32", "10000-01-01",
		"2024-01-\xff\xff", "\xff024-01-01", "2024\xe2\x80\x9001-01", "٢٠-01-01", "2024-٠-01", "2024-01-٠", "２024-1-1", "²024-01-1", "2024-01-¹",
	} {
		if d, ok := date.Parse(s); ok || d != (api.Date{}) {
			t.Errorf("%q: %v, %v", s, d, ok)
		}
	}
}

// P3.1: Parse, of a day's text with any one letter for any of its own.
func TestOneOtherLetter(t *testing.T) {
	const text = "2024-02-19"
	for i := range len(text) {
		for letter := range 256 {
			s := text[:i] + string([]byte{byte(letter)}) + text[i+1:]
			d, ok := date.Parse(s)
			year, month, day := numberOf(s[:4]), numberOf(s[5:7]), numberOf(s[8:])
			want := api.Date{Year: year, Month: month, Day: day}
			good := s[4] == '-' && s[7] == '-' && year >= 1 && month >= 1 && month <= 12 && day >= 1 && day <= 29
			if !good {
				want = api.Date{}
			}
			if d != want || ok != good {
				t.Errorf("%q: %v, %v, not %v, %v", s, d, ok, want, good)
			}
		}
	}
}

// numberOf: what digits tell; -1: there are others than digits.
func numberOf(s string) int {
	for i := range len(s) {
		if s[i] < '0' || s[i] > '9' {
			return -1
		}
	}
	n, _ := strconv.Atoi(s)
	return n
}

// P3.2: every day, its number and its text, one by one, held against the library's calendar; a later one has a greater number, and a greater text.
func TestAllDays(t *testing.T) {
	day := time.Date(1, 1, 1, 0, 0, 0, 0, time.UTC)
	last := ""
	for n := range count {
		want := api.Date{Year: day.Year(), Month: int(day.Month()), Day: day.Day()}
		d, ok := date.Of(n)
		if !ok || d != want || !date.Good(d) {
			t.Fatalf("day of %d: %v, %v, not %v", n, d, ok, want)
		}
		if got, ok := date.Number(d); got != n || !ok {
			t.Fatalf("number of %v: %d, %v, not %d", d, got, ok, n)
		}
		s := date.Text(d)
		if back, ok := date.Parse(s); s <= last || len(s) != 10 || back != d || !ok {
			t.Fatalf("text of %v: %s, behind %s, of which the day is %v, %v", d, s, last, back, ok)
		}
		last = s
		day = day.AddDate(0, 0, 1)
	}
	if last != "9999-12-31" {
		t.Errorf("the last is %s", last)
	}
}

// P3.1, P3.2: of all years, all months and days about their ends, there is a day just if it has a number and a text, and a month has as many as Days tells.
func TestAllMonths(t *testing.T) {
	found := 0
	for year := -2; year <= 10002; year++ {
		for month := -1; month <= 14; month++ {
			for day := -1; day <= 33; day++ {
				d := api.Date{Year: year, Month: month, Day: day}
				want := year >= 1 && year <= 9999 && day >= 1 && day <= date.Days(year, month)
				n, has := date.Number(d)
				if date.Good(d) != want || has != want || !want && n != 0 || (date.Text(d) != "") != want {
					t.Fatalf("%v: %v, %d, %v, %s", d, date.Good(d), n, has, date.Text(d))
				}
				if want {
					found++
				}
			}
		}
	}
	if found != count {
		t.Errorf("%d days, not %d", found, count)
	}
}
