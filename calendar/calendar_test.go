package calendar_test

import (
	"math"
	"math/rand"
	"slices"
	"strings"
	"testing"
	"time"

	"payroll/api"
	"payroll/calendar"
)

// at is the beginning of a day in the calendar of the standard library.
func at(day int) time.Time { return time.Unix(int64(day)*86400, 0).UTC() }

// dayOf is the number of the day of a time, which can be before day 0.
func dayOf(t time.Time) int { return int(t.Unix() / 86400) }

func date(year, month, day int) time.Time {
	return time.Date(year, time.Month(month), day, 0, 0, 0, 0, time.UTC)
}

// read is the day with a text that a test knows to be a date.
func read(t *testing.T, s string) int {
	t.Helper()
	at, err := time.Parse(time.DateOnly, s)
	if err != nil {
		t.Fatal(err)
	}
	return dayOf(at)
}

// beyond are integers that are not from 0 to last.
func beyond(last int) []int {
	return []int{-1, -2, -366, last + 1, last + 2, last + 366, math.MinInt, math.MinInt + 1, math.MaxInt, math.MaxInt - 1, 1 << 32, -1 << 32}
}

// otherYears are integers that are not from 1970 to 2199.
func otherYears() []int {
	return []int{1969, 2200, 0, -1, 1, 1570, 2370, 2600, 2026 + 1<<32, 2026 + 1<<62, 2026 - 1<<62, math.MinInt, math.MaxInt}
}

// P3.1

func TestEveryDay(t *testing.T) {
	for day := 0; day <= api.MaxDay; day++ {
		want := at(day)
		year, month, number, ok := calendar.Date(day)
		if !ok || date(year, month, number) != want || number != want.Day() || month != int(want.Month()) {
			t.Fatalf("Date(%d) is %d, %d, %d, %v, want %v", day, year, month, number, ok, want)
		}
		if got, ok := calendar.Day(year, month, number); !ok || got != day {
			t.Fatalf("Day(%d, %d, %d) is %d, %v, want %d", year, month, number, got, ok, day)
		}
		if got := calendar.Weekday(day); (got+1)%7 != int(want.Weekday()) || got < 0 || got > 6 {
			t.Fatalf("Weekday(%d) is %d, want that of %v", day, got, want.Weekday())
		}
		if got := calendar.Month(day); got != (year-1970)*12+month-1 {
			t.Fatalf("Month(%d) is %d, want that of %v", day, got, want)
		}
		y, week := want.ISOWeek()
		if a, b, ok := calendar.Week(day); !ok || a != y || b != week {
			t.Fatalf("Week(%d) is %d, %d, %v, want %d, %d", day, a, b, ok, y, week)
		}
	}
}

// The numbers of dates, with all days of the month near to those that exist.
func TestDayOfEveryDate(t *testing.T) {
	for year := 1960; year <= 2210; year++ {
		for month := -1; month <= 14; month++ {
			for day := -1; day <= 33; day++ {
				want := date(year, month, day)
				exists := year >= 1970 && year <= 2199 && want.Year() == year && int(want.Month()) == month && want.Day() == day
				got, ok := calendar.Day(year, month, day)
				if ok != exists || ok && got != dayOf(want) || !ok && got != 0 {
					t.Fatalf("Day(%d, %d, %d) is %d, %v", year, month, day, got, ok)
				}
			}
		}
	}
}

func TestDayExamples(t *testing.T) {
	for _, c := range []struct{ year, month, day, want int }{
		{1970, 1, 1, 0}, {1970, 12, 31, 364}, {1972, 2, 29, 789}, {2000, 2, 29, 11016}, {2026, 11, 16, 20773},
		{2100, 2, 28, 47540}, {2100, 3, 1, 47541}, {2199, 12, 31, api.MaxDay},
	} {
		if got, ok := calendar.Day(c.year, c.month, c.day); !ok || got != c.want {
			t.Errorf("Day(%d, %d, %d) is %d, %v, want %d", c.year, c.month, c.day, got, ok, c.want)
		}
		if a, b, d, ok := calendar.Date(c.want); !ok || a != c.year || b != c.month || d != c.day {
			t.Errorf("Date(%d) is %d, %d, %d, %v", c.want, a, b, d, ok)
		}
	}
	if got := calendar.Weekday(20773); got != 0 {
		t.Errorf("November 16, 2026, is a Monday, not %d", got)
	}
	if got := calendar.Weekday(0); got != 3 {
		t.Errorf("day 0 is a Thursday, not %d", got)
	}
	if calendar.Month(0) != 0 || calendar.Month(api.MaxDay) != api.MaxMonth {
		t.Error("the first and the last month")
	}
}

func TestDayRefuses(t *testing.T) {
	for _, c := range [][3]int{
		{2026, 2, 29}, {2100, 2, 29}, {2028, 2, 30}, {2026, 4, 31}, {2026, 6, 31}, {2026, 9, 31}, {2026, 11, 31}, {2026, 1, 32},
		{2026, 1, 0}, {2026, 1, -1}, {2026, 0, 1}, {2026, 13, 1}, {2026, -1, 1}, {1969, 12, 31}, {2200, 1, 1},
		{math.MinInt, 1, 1}, {math.MaxInt, 1, 1}, {2026, math.MinInt, 1}, {2026, math.MaxInt, 1}, {2026, 1, math.MinInt},
		{2026, 1, math.MaxInt}, {math.MinInt, math.MinInt, math.MinInt}, {math.MaxInt, math.MaxInt, math.MaxInt},
		{2026 + 1<<32, 1, 1}, {2026 + 1<<62, 1, 1}, {2026 - 1<<62, 1, 1}, {2026, 1 + 1<<32, 1}, {2026, 1, 1 + 1<<32}, {1969, 13, 1}, {2200, 0, 1}, {2025, 13, 1}, {2027, 0, 31},
	} {
		if got, ok := calendar.Day(c[0], c[1], c[2]); ok || got != 0 {
			t.Errorf("Day%v is %d, %v", c, got, ok)
		}
	}
}

func TestDaysThatAreNot(t *testing.T) {
	for _, day := range beyond(api.MaxDay) {
		if a, b, c, ok := calendar.Date(day); ok || a != 0 || b != 0 || c != 0 {
			t.Errorf("Date(%d) is %d, %d, %d, %v", day, a, b, c, ok)
		}
		if a, b, ok := calendar.Week(day); ok || a != 0 || b != 0 {
			t.Errorf("Week(%d) is %d, %d, %v", day, a, b, ok)
		}
		if got := calendar.Weekday(day); got != -1 {
			t.Errorf("Weekday(%d) is %d", day, got)
		}
		if got := calendar.Month(day); got != -1 {
			t.Errorf("Month(%d) is %d", day, got)
		}
	}
}

func TestWeeks(t *testing.T) {
	for _, c := range []struct {
		day        string
		year, week int
	}{
		{"1970-01-01", 1970, 1}, {"1970-01-04", 1970, 1}, {"1970-01-05", 1970, 2}, {"1970-12-31", 1970, 53}, {"1971-01-03", 1970, 53},
		{"1971-01-04", 1971, 1}, {"2020-12-31", 2020, 53}, {"2021-01-03", 2020, 53}, {"2021-01-04", 2021, 1}, {"2024-12-29", 2024, 52},
		{"2024-12-30", 2025, 1}, {"2025-01-05", 2025, 1}, {"2026-11-15", 2026, 46}, {"2026-11-16", 2026, 47}, {"2026-11-22", 2026, 47},
		{"2027-01-01", 2026, 53}, {"2199-12-29", 2199, 52}, {"2199-12-30", 2200, 1}, {"2199-12-31", 2200, 1},
	} {
		if a, b, ok := calendar.Week(read(t, c.day)); !ok || a != c.year || b != c.week {
			t.Errorf("the week of %s is %d of %d, %v, want %d of %d", c.day, b, a, ok, c.week, c.year)
		}
	}
}

// The definition of the chapter: the weeks begin with Mondays, and the first
// one of a year is the first one whose Thursday lies in the year.
func TestWeeksAreThoseOfTheirThursdays(t *testing.T) {
	year, week := 1970, 1
	for day := 1; day <= api.MaxDay; day++ {
		if calendar.Weekday(day) == 0 {
			week++
			if y := at(day + 3).Year(); y != year {
				year, week = y, 1
			}
		}
		if a, b, ok := calendar.Week(day); !ok || a != year || b != week {
			t.Fatalf("Week(%d) is %d, %d, %v, want %d, %d", day, a, b, ok, year, week)
		}
	}
}

// P3.2

func TestEveryMonth(t *testing.T) {
	day := 0
	for month := 0; month <= api.MaxMonth; month++ {
		first, ok := calendar.First(month)
		if !ok || first != day {
			t.Fatalf("First(%d) is %d, %v, want %d", month, first, ok, day)
		}
		next := dayOf(date(1970, month+2, 1))
		if got := calendar.Length(month); got != next-day {
			t.Fatalf("Length(%d) is %d, want %d", month, got, next-day)
		}
		day = next
	}
	if day != api.MaxDay+1 {
		t.Errorf("the months end before the day %d", day)
	}
}

func TestLengthExamples(t *testing.T) {
	for i, want := range []int{31, 28, 31, 30, 31, 30, 31, 31, 30, 31, 30, 31} {
		if got := calendar.Length(12*56 + i); got != want {
			t.Errorf("the month %d of 2026 has %d days, want %d", i+1, got, want)
		}
	}
	for year, want := range map[int]int{1970: 28, 1972: 29, 1999: 28, 2000: 29, 2024: 29, 2026: 28, 2096: 29, 2100: 28, 2104: 29, 2199: 28} {
		if got := calendar.Length((year-1970)*12 + 1); got != want {
			t.Errorf("February %d has %d days, want %d", year, got, want)
		}
	}
}

func TestMonthsThatAreNot(t *testing.T) {
	for _, month := range beyond(api.MaxMonth) {
		if got, ok := calendar.First(month); ok || got != 0 {
			t.Errorf("First(%d) is %d, %v", month, got, ok)
		}
		if got := calendar.Length(month); got != 0 {
			t.Errorf("Length(%d) is %d", month, got)
		}
	}
}

func TestAddMonthsExamples(t *testing.T) {
	for _, c := range []struct {
		from string
		n    int
		want string
	}{
		{"2027-01-31", 1, "2027-02-28"}, {"2028-01-31", 1, "2028-02-29"}, {"2027-01-31", 2, "2027-03-31"}, {"2027-01-31", 3, "2027-04-30"},
		{"2027-01-30", 1, "2027-02-28"}, {"2027-01-29", 1, "2027-02-28"}, {"2027-01-28", 1, "2027-02-28"}, {"2027-01-27", 1, "2027-02-27"},
		{"2028-02-29", 12, "2029-02-28"}, {"2028-02-29", 48, "2032-02-29"}, {"2028-02-29", -12, "2027-02-28"}, {"2096-02-29", 48, "2100-02-28"},
		{"2027-03-31", -1, "2027-02-28"}, {"2027-05-31", -1, "2027-04-30"}, {"2027-01-15", -1, "2026-12-15"}, {"2026-12-31", 2, "2027-02-28"},
		{"2027-05-31", 0, "2027-05-31"}, {"2027-05-01", 1, "2027-06-01"}, {"1970-01-31", api.MaxMonth, "2199-12-31"}, {"1970-01-31", 1, "1970-02-28"},
		{"1970-01-01", 0, "1970-01-01"}, {"2199-12-31", 0, "2199-12-31"}, {"2199-12-31", -api.MaxMonth, "1970-01-31"}, {"2199-12-31", -1, "2199-11-30"},
		{"2199-11-30", 1, "2199-12-30"}, {"1970-02-28", -1, "1970-01-28"},
	} {
		if got, ok := calendar.AddMonths(read(t, c.from), c.n); !ok || got != read(t, c.want) {
			t.Errorf("AddMonths(%s, %d) is %v, %v, want %s", c.from, c.n, at(got), ok, c.want)
		}
	}
}

// Every day of a leap year, of the years beside it, and of the first and the
// last year, with steps to months near and far.
func TestAddMonthsEverywhere(t *testing.T) {
	for _, year := range []int{1970, 2027, 2028, 2029, 2100, 2199} {
		for day := dayOf(date(year, 1, 1)); day < dayOf(date(year+1, 1, 1)); day++ {
			from := at(day)
			for _, n := range []int{-2759, -348, -25, -14, -13, -12, -11, -6, -3, -2, -1, 0, 1, 2, 3, 4, 6, 11, 12, 13, 14, 25, 348, 2759} {
				first := date(year, int(from.Month())+n, 1)
				want := first.AddDate(0, 1, -1)
				if want.Day() > from.Day() {
					want = first.AddDate(0, 0, from.Day()-1)
				}
				exists := first.Year() >= 1970 && first.Year() <= 2199
				got, ok := calendar.AddMonths(day, n)
				if ok != exists || ok && got != dayOf(want) || !ok && got != 0 {
					t.Fatalf("AddMonths(%d, %d) is %d, %v, want %v", day, n, got, ok, want)
				}
			}
		}
	}
}

func TestAddMonthsRefuses(t *testing.T) {
	for _, day := range beyond(api.MaxDay) {
		for _, n := range []int{0, 1, -1, 12, -12, math.MinInt, math.MaxInt} {
			if got, ok := calendar.AddMonths(day, n); ok || got != 0 {
				t.Errorf("AddMonths(%d, %d) is %d, %v", day, n, got, ok)
			}
		}
	}
	for _, c := range [][2]int{
		{0, -1}, {30, -1}, {31, -2}, {0, api.MaxMonth + 1}, {30, api.MaxMonth + 1}, {31, api.MaxMonth}, {api.MaxDay, 1},
		{api.MaxDay - 30, 1}, {api.MaxDay - 31, 2}, {api.MaxDay, -api.MaxMonth - 1}, {api.MaxDay - 31, -api.MaxMonth},
		{0, math.MaxInt}, {0, math.MinInt}, {20773, math.MaxInt}, {20773, math.MinInt}, {api.MaxDay, math.MaxInt}, {api.MaxDay, math.MinInt},
		{api.MaxDay, math.MaxInt - api.MaxMonth}, {api.MaxDay, math.MaxInt - api.MaxMonth + 1}, {20773, 1 << 32}, {20773, -1 << 32},
	} {
		if got, ok := calendar.AddMonths(c[0], c[1]); ok || got != 0 {
			t.Errorf("AddMonths(%d, %d) is %d, %v", c[0], c[1], got, ok)
		}
	}
}

// P3.3

// easterSunday is the reckoning of Meeus, Jones and Butcher.
func easterSunday(year int) time.Time {
	a, b, c := year%19, year/100, year%100
	g := (8*b + 13) / 25
	h := (19*a + b - b/4 - g + 15) % 30
	m := (a + 11*h) / 319
	r := (2*(b%4) + 2*(c/4) - c%4 - h + m + 32) % 7
	month := (h - m + r + 90) / 25
	return date(year, month, (h-m+r+month+19)%32)
}

func TestEasterOfEveryYear(t *testing.T) {
	for year := 1970; year <= 2199; year++ {
		got, ok := calendar.Easter(year)
		if !ok || got != dayOf(easterSunday(year)) {
			t.Errorf("Easter(%d) is %v, %v, want %v", year, at(got), ok, easterSunday(year))
		}
		early, late := dayOf(date(year, 3, 22)), dayOf(date(year, 4, 25))
		if got < early || got > late || calendar.Weekday(got) != 6 {
			t.Errorf("Easter(%d) is %v", year, at(got))
		}
	}
}

func TestEasterExamples(t *testing.T) {
	for _, s := range []string{
		"1970-03-29", "1974-04-14", "1981-04-19", "2000-04-23", "2008-03-23", "2011-04-24", "2019-04-21", "2024-03-31", "2025-04-20",
		"2026-04-05", "2027-03-28", "2035-03-25", "2038-04-25", "2049-04-18", "2076-04-19", "2100-03-28", "2106-04-18", "2133-04-19", "2160-03-23",
	} {
		want := read(t, s)
		if got, ok := calendar.Easter(at(want).Year()); !ok || got != want {
			t.Errorf("Easter is %v, %v, want %s", at(got), ok, s)
		}
	}
}

func TestEasterRefuses(t *testing.T) {
	for _, year := range otherYears() {
		if got, ok := calendar.Easter(year); ok || got != 0 {
			t.Errorf("Easter(%d) is %d, %v", year, got, ok)
		}
	}
}

// P3.4

func TestFormatOfEveryDay(t *testing.T) {
	for day := 0; day <= api.MaxDay; day++ {
		want := at(day).Format(time.DateOnly)
		if got := calendar.Format(day); got != want {
			t.Fatalf("Format(%d) is %q, want %q", day, got, want)
		}
		if got, ok := calendar.Parse(want); !ok || got != day {
			t.Fatalf("Parse(%q) is %d, %v, want %d", want, got, ok, day)
		}
	}
	if got := calendar.Format(20773); got != "2026-11-16" {
		t.Errorf("Format(20773) is %q", got)
	}
	for _, day := range beyond(api.MaxDay) {
		if got := calendar.Format(day); got != "" {
			t.Errorf("Format(%d) is %q", day, got)
		}
	}
}

func TestParseRefuses(t *testing.T) {
	for _, s := range []string{
		"", "-", "--", "2026", "2026-11", "2026-11-", "2026-11-1", "2026-11-160", "02026-11-16", "2026-011-16", "2026-1-01", "26-11-16", "20261116",
		"2026/11/16", "2026-11/16", "2026/11-16", "2026-11-16 ", " 2026-11-16", "2026-11-16\n", "2026-11-16\x00", "\x002026-11-16", "2026-11-1\x00",
		"+026-11-16", "-026-11-16", "2026-+1-16", "2026-11-+6", "2026--1-16", "2026-11--6", "2026-11- 6", "2026-11-6 ", "2026- 1-16", " 026-11-16",
		"2026-11-0x", "0x7e-11-16", "2_26-11-16", "2026-1_-16", "2026-11-1e", "1e03-11-16", "2026-00-10", "2026-13-10", "2026-11-00", "2026-11-31",
		"2026-02-29", "2100-02-29", "2028-02-30", "2026-01-32", "1969-12-31", "2200-01-01", "0000-00-00", "0000-01-01", "9999-12-31", "2026-99-99",
		"2026\u201311-16", "2026-11-16T00:00", "16-11-2026", "11-16-2026", "twenty-six", "\u0662026-11-16", "\u0661\u0669\u0667\u0660-",
		strings.Repeat("2026-11-16", 2), strings.Repeat("0", 1000), "\xff\xff\xff\xff-\xff\xff-\xff\xff",
	} {
		if got, ok := calendar.Parse(s); ok || got != 0 {
			t.Errorf("Parse(%q) is %d, %v", s, got, ok)
		}
	}
}

// Texts that differ from a date in one byte, or by one byte more or less, are
// dates only if they are the texts of days.
func TestParseNearDates(t *testing.T) {
	texts := map[string]int{}
	for day := range api.MaxDay + 1 {
		texts[at(day).Format(time.DateOnly)] = day
	}
	check := func(s string) {
		want, exists := texts[s]
		if got, ok := calendar.Parse(s); ok != exists || got != want {
			t.Errorf("Parse(%q) is %d, %v, want %d, %v", s, got, ok, want, exists)
		}
	}
	for _, s := range []string{"1970-01-01", "2026-11-16", "2028-02-29", "2100-02-28", "2199-12-31"} {
		for i := range len(s) {
			for b := range 256 {
				check(s[:i] + string([]byte{byte(b)}) + s[i+1:])
				check(s[:i] + string([]byte{byte(b)}) + s[i:])
			}
			check(s[:i] + s[i+1:])
			check(s[:i])
			check(s[i:])
		}
	}
}

// P3.5

// rules are valid holiday rules of all kinds, those at the limits among them.
func rules() []api.Holiday {
	var l []api.Holiday
	for month, last := range []int{31, 29, 31, 30, 31, 30, 31, 31, 30, 31, 30, 31} {
		for _, day := range []int{1, 2, last - 1, last} {
			l = append(l, api.Holiday{Kind: api.HolidayDate, Month: month + 1, Day: day})
		}
		for _, day := range []int{-1, 1, 2, 3, 4, 5} {
			for weekday := range 7 {
				for _, offset := range []int{-7, -3, 0, 1, 7} {
					l = append(l, api.Holiday{Kind: api.HolidayNth, Month: month + 1, Day: day, Weekday: weekday, Offset: offset})
				}
			}
		}
	}
	for offset := -100; offset <= 100; offset++ {
		l = append(l, api.Holiday{Kind: api.HolidayEaster, Offset: offset})
	}
	for _, h := range slices.Clone(l) {
		h.Moved = true
		l = append(l, h)
	}
	return l
}

// wrong are rules that are not valid, each for one reason.
func wrong() []api.Holiday {
	var l []api.Holiday
	for _, kind := range []int{-1, 3, 4, math.MinInt, math.MaxInt} {
		l = append(l, api.Holiday{Kind: kind, Month: 1, Day: 1}, api.Holiday{Kind: kind})
	}
	for _, month := range []int{-1, 0, 13, math.MinInt, math.MaxInt} {
		l = append(l, api.Holiday{Kind: api.HolidayDate, Month: month, Day: 1})
		l = append(l, api.Holiday{Kind: api.HolidayNth, Month: month, Day: 1})
	}
	for month, last := range []int{31, 29, 31, 30, 31, 30, 31, 31, 30, 31, 30, 31} {
		for _, day := range []int{-1, 0, last + 1, math.MinInt, math.MaxInt} {
			l = append(l, api.Holiday{Kind: api.HolidayDate, Month: month + 1, Day: day})
		}
	}
	for _, n := range []int{-100, -1, 1, 6, 100, math.MinInt, math.MaxInt} {
		l = append(l, api.Holiday{Kind: api.HolidayDate, Month: 1, Day: 1, Weekday: n})
		l = append(l, api.Holiday{Kind: api.HolidayDate, Month: 1, Day: 1, Offset: n})
		l = append(l, api.Holiday{Kind: api.HolidayEaster, Month: n})
		l = append(l, api.Holiday{Kind: api.HolidayEaster, Day: n})
		l = append(l, api.Holiday{Kind: api.HolidayEaster, Weekday: n})
	}
	for _, n := range []int{-101, 101, -1000, 1000, math.MinInt, math.MaxInt} {
		l = append(l, api.Holiday{Kind: api.HolidayEaster, Offset: n})
	}
	for _, n := range []int{-2, 0, 6, 31, math.MinInt, math.MaxInt} {
		l = append(l, api.Holiday{Kind: api.HolidayNth, Month: 1, Day: n})
	}
	for _, n := range []int{-1, 7, 8, math.MinInt, math.MaxInt} {
		l = append(l, api.Holiday{Kind: api.HolidayNth, Month: 1, Day: 1, Weekday: n})
	}
	for _, n := range []int{-8, 8, 100, -100, math.MinInt, math.MaxInt} {
		l = append(l, api.Holiday{Kind: api.HolidayNth, Month: 1, Day: 1, Offset: n})
	}
	for _, h := range slices.Clone(l) {
		h.Moved = true
		l = append(l, h)
	}
	return l
}

// names is the definition of the chapter: the day that a rule names for a year.
func names(h api.Holiday, year int) (int, bool) {
	var day time.Time
	switch h.Kind {
	case api.HolidayDate:
		day = date(year, h.Month, h.Day)
		if int(day.Month()) != h.Month {
			return 0, false
		}
	case api.HolidayEaster:
		day = easterSunday(year)
	case api.HolidayNth:
		var all []time.Time
		for d := date(year, h.Month, 1); int(d.Month()) == h.Month; d = d.AddDate(0, 0, 1) {
			if (int(d.Weekday())+6)%7 == h.Weekday {
				all = append(all, d)
			}
		}
		if h.Day > len(all) {
			return 0, false
		}
		day = all[len(all)-1]
		if h.Day > 0 {
			day = all[h.Day-1]
		}
	}
	day = day.AddDate(0, 0, h.Offset)
	for h.Moved && (day.Weekday() == time.Saturday || day.Weekday() == time.Sunday) {
		day = day.AddDate(0, 0, 1)
	}
	return dayOf(day), !day.Before(at(0)) && !day.After(at(api.MaxDay))
}

// checkErrors checks the errors of the three functions for a list of rules.
func checkErrors(t *testing.T, l []api.Holiday, want api.Errno) {
	t.Helper()
	if err := calendar.Valid(l); err != want {
		t.Errorf("Valid is %v for %d rules that end with %+v, want %v", err, len(l), l[len(l)-1], want)
	}
	days, err := calendar.Holidays(l, 2026)
	if err != want || err != api.OK && len(days) > 0 {
		t.Errorf("Holidays is %v, %v for %d rules that end with %+v, want %v", days, err, len(l), l[len(l)-1], want)
	}
	n, err := calendar.Workdays(l, 20773, 20779)
	if err != want || err != api.OK && n != 0 {
		t.Errorf("Workdays is %d, %v for %d rules that end with %+v, want %v", n, err, len(l), l[len(l)-1], want)
	}
}

func TestValidRules(t *testing.T) {
	for _, h := range rules() {
		checkErrors(t, []api.Holiday{h}, api.OK)
	}
	for day := 1; day <= 31; day++ {
		checkErrors(t, []api.Holiday{{Month: 10, Day: day}}, api.OK)
	}
	for offset := -7; offset <= 7; offset++ {
		checkErrors(t, []api.Holiday{{Kind: api.HolidayNth, Month: 10, Day: 1, Offset: offset}}, api.OK)
	}
	if err := calendar.Valid(nil); err != api.OK {
		t.Errorf("Valid(nil) is %v", err)
	}
	if err := calendar.Valid([]api.Holiday{}); err != api.OK {
		t.Errorf("Valid of no rules is %v", err)
	}
}

func TestWrongRules(t *testing.T) {
	good := rules()[:20]
	for _, h := range wrong() {
		checkErrors(t, []api.Holiday{h}, api.ErrInvalid)
		checkErrors(t, append(slices.Clone(good), h), api.ErrInvalid)
		checkErrors(t, append([]api.Holiday{h}, good...), api.ErrInvalid)
	}
}

func TestNumberOfRules(t *testing.T) {
	l := slices.Repeat([]api.Holiday{{Month: 11, Day: 17}}, api.MaxList)
	checkErrors(t, l, api.OK)
	if days, err := calendar.Holidays(l, 2026); err != api.OK || !slices.Equal(days, []int{20774}) {
		t.Errorf("Holidays is %v, %v", days, err)
	}
	if n, err := calendar.Workdays(l, 20773, 20779); err != api.OK || n != 4 {
		t.Errorf("Workdays is %d, %v", n, err)
	}
	checkErrors(t, append(slices.Clone(l[1:]), api.Holiday{}), api.ErrInvalid)
	checkErrors(t, append(slices.Clone(l), l[0]), api.ErrLimit)
	checkErrors(t, append(slices.Clone(l), api.Holiday{}), api.ErrLimit)
	checkErrors(t, make([]api.Holiday, api.MaxList+1), api.ErrLimit)
	checkErrors(t, make([]api.Holiday, 5*api.MaxList), api.ErrLimit)
}

func TestOrderOfErrors(t *testing.T) {
	for _, c := range []struct {
		l    []api.Holiday
		want api.Errno
	}{
		{[]api.Holiday{{}}, api.ErrInvalid}, {[]api.Holiday{{Month: 1, Day: 1}, {}}, api.ErrInvalid},
		{[]api.Holiday{{Month: 1, Day: 1}}, api.ErrRange}, {nil, api.ErrRange},
	} {
		for _, year := range otherYears() {
			if days, err := calendar.Holidays(c.l, year); err != c.want || len(days) > 0 {
				t.Errorf("Holidays(%v, %d) is %v, %v, want %v", c.l, year, days, err, c.want)
			}
		}
		for _, day := range beyond(api.MaxDay) {
			for _, r := range [][2]int{{day, 20773}, {20773, day}, {day, day}, {day, 0}, {0, day}, {api.MaxDay, day}, {day, api.MaxDay}} {
				if n, err := calendar.Workdays(c.l, r[0], r[1]); err != c.want || n != 0 {
					t.Errorf("Workdays(%v, %d, %d) is %d, %v, want %v", c.l, r[0], r[1], n, err, c.want)
				}
			}
		}
	}
	many := make([]api.Holiday, api.MaxList+1)
	if days, err := calendar.Holidays(many, 1969); err != api.ErrLimit || len(days) > 0 {
		t.Errorf("Holidays is %v, %v", days, err)
	}
	if n, err := calendar.Workdays(many, -1, -1); err != api.ErrLimit || n != 0 {
		t.Errorf("Workdays is %d, %v", n, err)
	}
}

func TestHolidaysExamples(t *testing.T) {
	nth := func(month, day, weekday, offset int, moved bool) api.Holiday {
		return api.Holiday{Kind: api.HolidayNth, Month: month, Day: day, Weekday: weekday, Offset: offset, Moved: moved}
	}
	on := func(month, day int, moved bool) api.Holiday {
		return api.Holiday{Kind: api.HolidayDate, Month: month, Day: day, Moved: moved}
	}
	easter := func(offset int, moved bool) api.Holiday {
		return api.Holiday{Kind: api.HolidayEaster, Offset: offset, Moved: moved}
	}
	for _, c := range []struct {
		l    []api.Holiday
		year int
		want string
	}{
		{nil, 2026, ""},
		{[]api.Holiday{nth(11, 4, 3, 0, false)}, 2026, "2026-11-26"}, // Thanksgiving
		{[]api.Holiday{on(2, 29, false)}, 2027, ""}, {[]api.Holiday{on(2, 29, false)}, 2028, "2028-02-29"}, {[]api.Holiday{on(2, 29, false)}, 2100, ""},
		{[]api.Holiday{on(2, 29, true)}, 2027, ""}, {[]api.Holiday{on(2, 29, true)}, 2048, "2048-03-02"}, // a Saturday
		{[]api.Holiday{nth(5, -1, 0, 0, false)}, 2026, "2026-05-25"}, {[]api.Holiday{nth(5, -1, 6, 0, false)}, 2026, "2026-05-31"},
		{[]api.Holiday{nth(5, 5, 0, 0, false)}, 2026, ""}, {[]api.Holiday{nth(5, 5, 6, 0, false)}, 2026, "2026-05-31"}, {[]api.Holiday{nth(5, 5, 0, 1, true)}, 2026, ""},
		{[]api.Holiday{nth(2, 5, 6, 0, false)}, 2032, "2032-02-29"}, {[]api.Holiday{nth(2, 5, 6, 0, false)}, 2026, ""},
		{[]api.Holiday{nth(2, -1, 6, 0, false)}, 2026, "2026-02-22"}, {[]api.Holiday{nth(3, 1, 6, 0, false)}, 2026, "2026-03-01"},
		{[]api.Holiday{on(7, 4, true)}, 2026, "2026-07-06"}, {[]api.Holiday{on(7, 4, true)}, 2027, "2027-07-05"}, {[]api.Holiday{on(7, 4, false)}, 2026, "2026-07-04"},
		{[]api.Holiday{on(7, 6, true)}, 2026, "2026-07-06"}, {[]api.Holiday{on(7, 3, true)}, 2026, "2026-07-03"},
		{[]api.Holiday{easter(0, false)}, 2026, "2026-04-05"}, {[]api.Holiday{easter(0, true)}, 2026, "2026-04-06"}, {[]api.Holiday{easter(-1, true)}, 2026, "2026-04-06"},
		{[]api.Holiday{easter(-2, true), easter(39, false), easter(50, false)}, 2026, "2026-04-03 2026-05-14 2026-05-25"},
		{[]api.Holiday{easter(100, false)}, 2026, "2026-07-14"}, {[]api.Holiday{easter(-100, false)}, 2026, "2025-12-26"},
		{[]api.Holiday{nth(12, -1, 3, 1, false)}, 2026, "2027-01-01"}, {[]api.Holiday{nth(1, 1, 3, -1, false)}, 2026, "2025-12-31"},
		{[]api.Holiday{on(12, 31, true)}, 2023, "2024-01-01"}, {[]api.Holiday{on(12, 31, true)}, 2024, "2024-12-31"},
		{[]api.Holiday{nth(1, 1, 6, -7, true)}, 2023, "2022-12-26"}, {[]api.Holiday{nth(1, 1, 5, -7, false)}, 2022, "2021-12-25"},
		// Days that several rules name, in any order of the rules.
		{[]api.Holiday{on(4, 6, false), easter(0, true), easter(1, false), easter(-2, false), on(4, 3, false)}, 2026, "2026-04-03 2026-04-06"},
		{[]api.Holiday{on(12, 25, false), on(5, 1, false), on(1, 1, false), on(5, 1, false)}, 2026, "2026-01-01 2026-05-01 2026-12-25"},
		// Days beyond 0 to MaxDay.
		{[]api.Holiday{on(1, 1, false)}, 1970, "1970-01-01"}, {[]api.Holiday{nth(1, 1, 3, -1, false)}, 1970, ""}, {[]api.Holiday{nth(1, 1, 3, -7, true)}, 1970, ""},
		{[]api.Holiday{nth(1, 1, 5, -3, true)}, 1970, ""}, {[]api.Holiday{nth(1, 1, 5, -2, true)}, 1970, "1970-01-01"}, {[]api.Holiday{nth(1, 1, 5, -7, true)}, 1970, ""},
		{[]api.Holiday{easter(-87, false)}, 1970, "1970-01-01"}, {[]api.Holiday{easter(-88, false)}, 1970, ""}, {[]api.Holiday{easter(-100, true)}, 1970, ""},
		{[]api.Holiday{on(12, 31, true)}, 2199, "2199-12-31"}, {[]api.Holiday{nth(12, -1, 6, 2, false)}, 2199, "2199-12-31"},
		{[]api.Holiday{nth(12, -1, 6, 3, false)}, 2199, ""}, {[]api.Holiday{nth(12, -1, 6, 7, true)}, 2199, ""}, {[]api.Holiday{nth(12, -1, 5, 7, true)}, 2199, ""},
		{[]api.Holiday{nth(12, -1, 5, 0, true)}, 2199, "2199-12-30"},
	} {
		days, err := calendar.Holidays(c.l, c.year)
		var got []string
		for _, day := range days {
			got = append(got, at(day).Format(time.DateOnly))
		}
		if s := strings.Join(got, " "); err != api.OK || s != c.want {
			t.Errorf("Holidays(%+v, %d) is %s, %v, want %s", c.l, c.year, s, err, c.want)
		}
	}
}

// Each rule alone, in years that begin with every weekday, leap years and
// others, the first and the last one.
func TestHolidaysOfOneRule(t *testing.T) {
	years := []int{1970, 1971, 1999, 2000, 2096, 2099, 2100, 2101, 2198, 2199}
	for year := 2015; year < 2043; year++ {
		years = append(years, year)
	}
	for _, h := range rules() {
		for _, year := range years {
			day, ok := names(h, year)
			days, err := calendar.Holidays([]api.Holiday{h}, year)
			if err != api.OK || ok && !slices.Equal(days, []int{day}) || !ok && len(days) > 0 {
				t.Fatalf("Holidays(%+v, %d) is %v, %v, want %d, %v", h, year, days, err, day, ok)
			}
		}
	}
}

// some returns n rules of a list, chosen at random.
func some(random *rand.Rand, from []api.Holiday, n int) []api.Holiday {
	var l []api.Holiday
	for range n {
		l = append(l, from[random.Intn(len(from))])
	}
	return l
}

func TestHolidaysOfManyRules(t *testing.T) {
	random := rand.New(rand.NewSource(1))
	all := rules()
	for i := range 300 {
		l := some(random, all, i*api.MaxList/300)
		year := 1970 + random.Intn(230)
		set := map[int]bool{}
		for _, h := range l {
			if day, ok := names(h, year); ok {
				set[day] = true
			}
		}
		days, err := calendar.Holidays(l, year)
		if err != api.OK || len(days) != len(set) || !slices.IsSorted(days) {
			t.Fatalf("Holidays of %d rules in %d is %v, %v", len(l), year, days, err)
		}
		for _, day := range days {
			if !set[day] {
				t.Fatalf("Holidays of %d rules in %d contains %d", len(l), year, day)
			}
			delete(set, day) // so that a repeated day is not found again
		}
	}
}

func TestWorkdaysExamples(t *testing.T) {
	newYear := []api.Holiday{{Month: 1, Day: 1}, {Month: 12, Day: 25}, {Month: 12, Day: 31, Moved: true}}
	early := []api.Holiday{{Kind: api.HolidayEaster, Offset: -100}}
	third := []api.Holiday{{Kind: api.HolidayNth, Month: 1, Day: 1, Weekday: 3, Offset: -7}}
	for _, c := range []struct {
		l        []api.Holiday
		from, to string
		want     int
	}{
		{nil, "2026-11-16", "2026-11-22", 5}, {nil, "2026-11-21", "2026-11-22", 0}, {nil, "2026-11-20", "2026-11-20", 1},
		{nil, "2026-11-21", "2026-11-21", 0}, {nil, "2026-11-22", "2026-11-22", 0}, {nil, "2026-11-20", "2026-11-19", 0},
		{nil, "2199-12-31", "1970-01-01", 0}, {newYear, "2199-12-31", "1970-01-01", 0}, {newYear, "2026-12-25", "2026-12-24", 0},
		{nil, "1970-01-01", "1970-01-01", 1}, {newYear, "1970-01-01", "1970-01-01", 0}, {nil, "2199-12-31", "2199-12-31", 1},
		{newYear, "2199-12-31", "2199-12-31", 0}, {nil, "2026-01-01", "2026-12-31", 261}, {newYear, "2026-01-01", "2026-12-31", 258},
		{nil, "1970-01-01", "2199-12-31", 60004},
		// The last day of 2022 and of 2023 moves into the next year.
		{newYear, "2023-12-25", "2024-01-02", 5}, {newYear, "2022-12-30", "2023-01-03", 2}, {newYear, "2023-01-02", "2023-01-02", 0}, {newYear, "2023-01-03", "2023-01-03", 1},
		{newYear, "2022-12-31", "2022-12-31", 0}, {newYear, "2026-12-25", "2026-12-25", 0}, {newYear, "2026-12-24", "2026-12-26", 1},
		// 100 days before the Easter Sunday of 2026 is December 26, 2025, a Friday.
		{early, "2025-12-26", "2025-12-26", 0}, {early, "2025-12-22", "2025-12-28", 4}, {early, "2026-12-26", "2026-12-26", 0}, {early, "2025-12-29", "2026-01-04", 5},
		{third, "2025-12-25", "2025-12-25", 0}, {third, "2026-01-01", "2026-01-01", 1},
		// A holiday at the weekend takes no working day away; two rules for one day take one.
		{[]api.Holiday{{Month: 11, Day: 21}}, "2026-11-16", "2026-11-22", 5}, {[]api.Holiday{{Month: 11, Day: 21, Moved: true}}, "2026-11-16", "2026-11-23", 5},
		{[]api.Holiday{{Month: 11, Day: 17}, {Month: 11, Day: 17}, {Month: 11, Day: 18}}, "2026-11-16", "2026-11-22", 3},
	} {
		if n, err := calendar.Workdays(c.l, read(t, c.from), read(t, c.to)); err != api.OK || n != c.want {
			t.Errorf("Workdays(%+v, %s, %s) is %d, %v, want %d", c.l, c.from, c.to, n, err, c.want)
		}
	}
}

// The working days of random ranges and rules, counted one by one with the
// holidays of all years.
func TestWorkdaysCounted(t *testing.T) {
	random := rand.New(rand.NewSource(2))
	all := rules()
	for i := range 60 {
		l := some(random, all, 2*i)
		holidays := map[int]bool{}
		for _, h := range l {
			for year := 1970; year <= 2199; year++ {
				if day, ok := names(h, year); ok {
					holidays[day] = true
				}
			}
		}
		sums := make([]int, api.MaxDay+2)
		for day := range api.MaxDay + 1 {
			sums[day+1] = sums[day]
			if w := at(day).Weekday(); w != time.Saturday && w != time.Sunday && !holidays[day] {
				sums[day+1]++
			}
		}
		check := func(from, to int) {
			want := max(0, sums[max(to, from)+1]-sums[from])
			if to < from {
				want = 0
			}
			if n, err := calendar.Workdays(l, from, to); err != api.OK || n != want {
				t.Fatalf("Workdays(%+v, %d, %d) is %d, %v, want %d", l, from, to, n, err, want)
			}
		}
		check(0, api.MaxDay)
		for range 60 {
			year := dayOf(date(1970+random.Intn(230), 1, 1))
			from := min(api.MaxDay, max(0, year+random.Intn(40)-30))
			check(from, min(api.MaxDay, from+random.Intn(60)))
			check(random.Intn(api.MaxDay+1), random.Intn(api.MaxDay+1))
		}
		for k := range 8 {
			check(0, k)
			check(api.MaxDay-k, api.MaxDay)
		}
	}
}

// R2

func TestArgumentsAndResultsAreApart(t *testing.T) {
	l := []api.Holiday{{Month: 12, Day: 25}, {Kind: api.HolidayEaster, Offset: 1}, {Month: 1, Day: 1, Moved: true}}
	before := slices.Clone(l)
	first, err := calendar.Holidays(l, 2026)
	if err != api.OK || len(first) != 3 {
		t.Fatalf("Holidays is %v, %v", first, err)
	}
	kept := slices.Clone(first)
	second, _ := calendar.Holidays(l, 2026)
	for i := range second[:cap(second)] {
		second[:cap(second)][i] = -5
	}
	if !slices.Equal(first, kept) {
		t.Errorf("writing into a result changed another one to %v", first)
	}
	if third, _ := calendar.Holidays(l, 2026); !slices.Equal(third, kept) {
		t.Errorf("writing into a result changed a later one to %v", third)
	}
	calendar.Workdays(l, 0, api.MaxDay)
	calendar.Valid(l)
	if !slices.Equal(l, before) {
		t.Errorf("the rules changed to %v", l)
	}
}
