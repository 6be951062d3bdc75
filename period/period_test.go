package period_test

import (
	"math"
	"math/rand"
	"slices"
	"testing"
	"time"

	"payroll/api"
	"payroll/calendar"
	"payroll/period"
	"payroll/ratio"
	"payroll/rounding"
)

var (
	months = api.PayCalendar{Kind: api.PeriodMonth}
	halves = api.PayCalendar{Kind: api.PeriodHalf}
)

func weeks(anchor int) api.PayCalendar {
	return api.PayCalendar{Kind: api.PeriodWeek, Anchor: anchor}
}

func twoWeeks(anchor int) api.PayCalendar {
	return api.PayCalendar{Kind: api.PeriodTwoWeeks, Anchor: anchor}
}

// calendars are all valid pay calendars.
func calendars() []api.PayCalendar {
	l := []api.PayCalendar{months, halves}
	for anchor := range 14 {
		l = append(l, twoWeeks(anchor))
	}
	for anchor := range 7 {
		l = append(l, weeks(anchor))
	}
	return l
}

// invalid are pay calendars that are not valid.
func invalid() []api.PayCalendar {
	var l []api.PayCalendar
	far := []int{-1, -2, -7, -14, math.MinInt, math.MaxInt, 1 << 32, -1 << 32}
	for _, anchor := range far {
		l = append(l, weeks(anchor), twoWeeks(anchor))
		l = append(l, api.PayCalendar{Kind: api.PeriodMonth, Anchor: anchor}, api.PayCalendar{Kind: api.PeriodHalf, Anchor: anchor})
	}
	for anchor := range 30 {
		if anchor > 0 {
			l = append(l, api.PayCalendar{Kind: api.PeriodMonth, Anchor: anchor}, api.PayCalendar{Kind: api.PeriodHalf, Anchor: anchor})
		}
		if anchor > 6 {
			l = append(l, weeks(anchor))
		}
		if anchor > 13 {
			l = append(l, twoWeeks(anchor))
		}
		for _, kind := range append(far, 4, 5) {
			l = append(l, api.PayCalendar{Kind: kind, Anchor: anchor})
		}
	}
	return l
}

// beyond are integers that are not from 0 to last.
func beyond(last int) []int {
	return []int{-1, -2, -7, -14, last + 1, last + 2, 2*last + 2, math.MinInt, math.MinInt + 1, math.MaxInt, math.MaxInt - 1, 1 << 32, -1 << 32, math.MaxInt/7 + 1, math.MaxInt/14 + 1}
}

// at is the beginning of a day in the calendar of the standard library.
func at(day int) time.Time { return time.Unix(int64(day)*86400, 0).UTC() }

// read is the day with a text that a test knows to be a date.
func read(t *testing.T, s string) int {
	t.Helper()
	at, err := time.Parse(time.DateOnly, s)
	if err != nil {
		t.Fatal(err)
	}
	return int(at.Unix() / 86400)
}

// of is the period of a pay calendar that contains a day.
func of(t *testing.T, c api.PayCalendar, s string) int {
	t.Helper()
	n, err := period.Of(c, read(t, s))
	if err != api.OK {
		t.Fatal(c, s, err)
	}
	return n
}

// begins says by the definition whether a period begins at a day behind day 0.
func begins(c api.PayCalendar, day int) bool {
	date := at(day).Day()
	switch c.Kind {
	case api.PeriodMonth:
		return date == 1
	case api.PeriodHalf:
		return date == 1 || date == 16
	case api.PeriodTwoWeeks:
		return day >= c.Anchor && (day-c.Anchor)%14 == 0
	default:
		return day >= c.Anchor && (day-c.Anchor)%7 == 0
	}
}

// periods are all periods of a pay calendar, by the definition.
func periods(c api.PayCalendar) []api.Range {
	l := []api.Range{{}}
	for day := 1; day <= api.MaxDay; day++ {
		if begins(c, day) {
			l = append(l, api.Range{From: day, To: day})
		} else {
			l[len(l)-1].To = day
		}
	}
	return l
}

// P5.1

func TestValid(t *testing.T) {
	for _, c := range calendars() {
		if err := period.Valid(c); err != api.OK {
			t.Errorf("Valid(%v) is %v", c, err)
		}
	}
	for _, c := range invalid() {
		if err := period.Valid(c); err != api.ErrRange {
			t.Errorf("Valid(%v) is %v", c, err)
		}
		for _, n := range []int{0, 1, -1, math.MinInt, math.MaxInt} {
			if got, err := period.Of(c, n); got != 0 || err != api.ErrRange {
				t.Errorf("Of(%v, %d) is %d, %v", c, n, got, err)
			}
			if got, err := period.Span(c, n); got != (api.Range{}) || err != api.ErrRange {
				t.Errorf("Span(%v, %d) is %v, %v", c, n, got, err)
			}
		}
		if got := period.Count(c); got != 0 {
			t.Errorf("Count(%v) is %d", c, got)
		}
	}
}

func TestEveryPeriod(t *testing.T) {
	for _, c := range calendars() {
		want := periods(c)
		if got := period.Count(c); got != len(want) {
			t.Fatalf("Count(%v) is %d, want %d", c, got, len(want))
		}
		for n, days := range want {
			if got, err := period.Span(c, n); got != days || err != api.OK {
				t.Fatalf("Span(%v, %d) is %v, %v, want %v", c, n, got, err, days)
			}
			for day := days.From; day <= days.To; day++ {
				if got, err := period.Of(c, day); got != n || err != api.OK {
					t.Fatalf("Of(%v, %d) is %d, %v, want %d", c, day, got, err, n)
				}
			}
		}
		for _, n := range beyond(len(want) - 1) {
			if got, err := period.Span(c, n); got != (api.Range{}) || err != api.ErrRange {
				t.Errorf("Span(%v, %d) is %v, %v", c, n, got, err)
			}
		}
		for _, day := range beyond(api.MaxDay) {
			if got, err := period.Of(c, day); got != 0 || err != api.ErrRange {
				t.Errorf("Of(%v, %d) is %d, %v", c, day, got, err)
			}
		}
	}
}

func TestCount(t *testing.T) {
	for c, want := range map[api.PayCalendar]int{
		months:       api.MaxMonth + 1,
		halves:       2*api.MaxMonth + 2,
		weeks(0):     12001, // 84006 days are 12000 weeks and 6 days
		weeks(5):     12002, // the days 0 to 4, and the day MaxDay alone
		weeks(6):     12001,
		twoWeeks(0):  6001,
		twoWeeks(5):  6002,
		twoWeeks(6):  6001,
		twoWeeks(13): 6001,
	} {
		if got := period.Count(c); got != want {
			t.Errorf("Count(%v) is %d, want %d", c, got, want)
		}
	}
}

func TestSpan(t *testing.T) {
	for _, row := range []struct {
		c        api.PayCalendar
		n        int
		from, to string
	}{
		{months, 0, "1970-01-01", "1970-01-31"}, {months, 1, "1970-02-01", "1970-02-28"}, {months, 3, "1970-04-01", "1970-04-30"},
		{months, 25, "1972-02-01", "1972-02-29"}, {months, 2759, "2199-12-01", "2199-12-31"}, {months, 682, "2026-11-01", "2026-11-30"},
		{halves, 0, "1970-01-01", "1970-01-15"}, {halves, 1, "1970-01-16", "1970-01-31"}, {halves, 2, "1970-02-01", "1970-02-15"},
		{halves, 3, "1970-02-16", "1970-02-28"}, {halves, 51, "1972-02-16", "1972-02-29"}, {halves, 7, "1970-04-16", "1970-04-30"},
		{halves, 5518, "2199-12-01", "2199-12-15"}, {halves, 5519, "2199-12-16", "2199-12-31"},
		{twoWeeks(0), 0, "1970-01-01", "1970-01-14"}, {twoWeeks(0), 1, "1970-01-15", "1970-01-28"}, {twoWeeks(0), 6000, "2199-12-26", "2199-12-31"},
		{twoWeeks(4), 0, "1970-01-01", "1970-01-04"}, {twoWeeks(4), 1, "1970-01-05", "1970-01-18"},
		{twoWeeks(13), 0, "1970-01-01", "1970-01-13"}, {twoWeeks(1), 0, "1970-01-01", "1970-01-01"}, {twoWeeks(5), 6001, "2199-12-31", "2199-12-31"},
		{weeks(0), 0, "1970-01-01", "1970-01-07"}, {weeks(4), 0, "1970-01-01", "1970-01-04"}, {weeks(4), 1, "1970-01-05", "1970-01-11"},
		{weeks(1), 0, "1970-01-01", "1970-01-01"}, {weeks(6), 0, "1970-01-01", "1970-01-06"}, {weeks(5), 12001, "2199-12-31", "2199-12-31"},
		{weeks(6), 12000, "2199-12-25", "2199-12-31"},
	} {
		want := api.Range{From: read(t, row.from), To: read(t, row.to)}
		if got, err := period.Span(row.c, row.n); got != want || err != api.OK {
			t.Errorf("Span(%v, %d) is %v, %v, want %v", row.c, row.n, got, err, want)
		}
		for _, s := range []string{row.from, row.to} {
			if got := of(t, row.c, s); got != row.n {
				t.Errorf("Of(%v, %s) is %d, want %d", row.c, s, got, row.n)
			}
		}
	}
}

// P5.2

// dayWeight is the weight of a day by the definition; holidays has the days
// that are holidays.
func dayWeight(day, method int, holidays map[int]bool) int {
	switch method {
	case api.PortionDays:
		return 1
	case api.PortionWork:
		if weekday := at(day).Weekday(); weekday == time.Saturday || weekday == time.Sunday || holidays[day] {
			return 0
		}
		return 1
	default:
		date, next := at(day).Day(), at(day+1).Day()
		if next == 1 {
			return 31 - date // the number of the last day is that of the days
		}
		return 1
	}
}

// sums are the weights of the parts of a period by the definition.
func sums(days api.Range, cuts []int, method int, holidays map[int]bool) []int {
	l := []int{0}
	for day := days.From; day <= days.To; day++ {
		if slices.Contains(cuts, day) {
			l = append(l, 0)
		}
		l[len(l)-1] += dayWeight(day, method, holidays)
	}
	return l
}

// free are the days that rules name for any year.
func free(t *testing.T, rules []api.Holiday) map[int]bool {
	t.Helper()
	m := map[int]bool{}
	for year := 1970; year <= 2199; year++ {
		l, err := calendar.Holidays(rules, year)
		if err != api.OK {
			t.Fatal(err)
		}
		for _, day := range l {
			m[day] = true
		}
	}
	return m
}

// rules are holidays that fall on weekdays and on weekends, in neighbouring
// years, and on the same days as others.
func rules() []api.Holiday {
	return []api.Holiday{
		{Month: 1, Day: 1}, {Month: 12, Day: 25, Moved: true}, {Month: 12, Day: 26}, {Month: 12, Day: 31, Moved: true}, {Month: 2, Day: 29},
		{Kind: api.HolidayEaster, Offset: 1}, {Kind: api.HolidayEaster, Offset: -2}, {Kind: api.HolidayEaster, Offset: 39},
		{Kind: api.HolidayNth, Month: 11, Day: 4, Weekday: 3}, {Kind: api.HolidayNth, Month: 5, Day: -1, Weekday: 0},
		{Kind: api.HolidayNth, Month: 1, Day: 1, Weekday: 3, Offset: -7}, {Kind: api.HolidayNth, Month: 10, Day: 5, Weekday: 6, Offset: 3},
		{Month: 12, Day: 25, Moved: true},
	}
}

// someCuts are cuts of a period, in order: each day but the first one is a cut
// with the probability 1/rare.
func someCuts(r *rand.Rand, days api.Range, rare int) []int {
	var cuts []int
	for day := days.From + 1; day <= days.To; day++ {
		if r.Intn(rare) == 0 {
			cuts = append(cuts, day)
		}
	}
	return cuts
}

// methods are those that exist for a pay calendar.
func methods(c api.PayCalendar) []int {
	if c.Kind == api.PeriodMonth {
		return []int{api.PortionDays, api.PortionWork, api.PortionThirty}
	}
	return []int{api.PortionDays, api.PortionWork}
}

// someArguments calls f with periods of all pay calendars, the first and the
// last ones among them, cut in many ways.
func someArguments(t *testing.T, f func(c api.PayCalendar, n int, cuts []int, method int, holidays []api.Holiday, want []int)) {
	r := rand.New(rand.NewSource(5))
	none, all := map[int]bool{}, free(t, rules())
	for _, c := range calendars() {
		l := periods(c)
		numbers := []int{0, 1, 2, len(l) - 3, len(l) - 2, len(l) - 1}
		for range 30 {
			numbers = append(numbers, r.Intn(len(l)))
		}
		for _, n := range numbers {
			ways := [][]int{nil, someCuts(r, l[n], 1), someCuts(r, l[n], 2), someCuts(r, l[n], 5), someCuts(r, l[n], 20)}
			for _, cuts := range ways {
				for _, method := range methods(c) {
					f(c, n, cuts, method, nil, sums(l[n], cuts, method, none))
					f(c, n, cuts, method, rules(), sums(l[n], cuts, method, all))
				}
			}
		}
	}
}

func TestWeights(t *testing.T) {
	someArguments(t, func(c api.PayCalendar, n int, cuts []int, method int, holidays []api.Holiday, want []int) {
		if got, err := period.Weights(c, n, cuts, method, holidays); !slices.Equal(got, want) || err != api.OK {
			t.Fatalf("Weights(%v, %d, %v, %d, %v) is %v, %v, want %v", c, n, cuts, method, holidays, got, err, want)
		}
	})
}

// Every cut of every month of eight years, with each method.
func TestWeightsOfOneCut(t *testing.T) {
	all := free(t, rules())
	for n := 48 * 12; n < 56*12; n++ {
		days, _ := period.Span(months, n)
		for cut := days.From + 1; cut <= days.To; cut++ {
			for _, method := range methods(months) {
				want := sums(days, []int{cut}, method, all)
				got, err := period.Weights(months, n, []int{cut}, method, rules())
				if !slices.Equal(got, want) || err != api.OK {
					t.Fatalf("Weights of the month %d with the cut %d and the method %d are %v, %v, want %v", n, cut, method, got, err, want)
				}
				if method == api.PortionThirty && got[0]+got[1] != 30 {
					t.Fatalf("the month %d with the cut %d weighs %v", n, cut, got)
				}
			}
		}
	}
}

func TestWeightsOfExamples(t *testing.T) {
	thanksgiving := api.Holiday{Kind: api.HolidayNth, Month: 11, Day: 4, Weekday: 3}
	november29 := api.Holiday{Month: 11, Day: 29} // a Sunday of 2026
	monday := november29
	monday.Moved = true
	for _, row := range []struct {
		c        api.PayCalendar
		first    string
		cuts     []string
		method   int
		holidays []api.Holiday
		want     []int
	}{
		{months, "2026-02-01", []string{"2026-02-15"}, api.PortionThirty, nil, []int{14, 16}},
		{months, "2026-02-01", []string{"2026-02-28"}, api.PortionThirty, nil, []int{27, 3}},
		{months, "2026-02-01", []string{"2026-02-02"}, api.PortionThirty, nil, []int{1, 29}},
		{months, "2026-02-01", nil, api.PortionThirty, nil, []int{30}},
		{months, "2026-02-01", nil, api.PortionDays, nil, []int{28}},
		{months, "2028-02-01", []string{"2028-02-29"}, api.PortionThirty, nil, []int{28, 2}},
		{months, "2028-02-01", nil, api.PortionDays, nil, []int{29}},
		{months, "2026-11-01", []string{"2026-11-30"}, api.PortionThirty, nil, []int{29, 1}},
		{months, "2026-11-01", []string{"2026-11-11"}, api.PortionDays, nil, []int{10, 20}},
		{months, "2026-10-01", []string{"2026-10-31"}, api.PortionThirty, nil, []int{30, 0}},
		{months, "2026-10-01", []string{"2026-10-30", "2026-10-31"}, api.PortionThirty, nil, []int{29, 1, 0}},
		{months, "2026-10-01", nil, api.PortionThirty, nil, []int{30}},
		{months, "2026-10-01", []string{"2026-10-31"}, api.PortionDays, nil, []int{30, 1}},
		{months, "2026-11-01", []string{"2026-11-02"}, api.PortionWork, nil, []int{0, 21}},
		{months, "2026-11-01", []string{"2026-11-21", "2026-11-23"}, api.PortionWork, nil, []int{15, 0, 6}},
		{months, "2026-11-01", []string{"2026-11-26", "2026-11-27"}, api.PortionWork, []api.Holiday{thanksgiving}, []int{18, 0, 2}},
		{months, "2026-11-01", []string{"2026-11-26", "2026-11-27"}, api.PortionDays, []api.Holiday{thanksgiving}, []int{25, 1, 4}},
		{months, "2026-11-01", []string{"2026-11-26"}, api.PortionThirty, []api.Holiday{thanksgiving}, []int{25, 5}},
		{months, "2026-11-01", []string{"2026-11-28"}, api.PortionWork, []api.Holiday{november29}, []int{20, 1}},
		{months, "2026-11-01", []string{"2026-11-28"}, api.PortionWork, []api.Holiday{monday}, []int{20, 0}},
		{halves, "2026-11-16", []string{"2026-11-17", "2026-11-30"}, api.PortionDays, nil, []int{1, 13, 1}},
		{halves, "2026-11-01", []string{"2026-11-15"}, api.PortionWork, nil, []int{10, 0}},
		{weeks(4), "2026-11-16", []string{"2026-11-21", "2026-11-22"}, api.PortionWork, nil, []int{5, 0, 0}},
		{weeks(1), "1970-01-01", nil, api.PortionWork, nil, []int{1}},
		{weeks(1), "1970-01-01", nil, api.PortionWork, []api.Holiday{{Month: 1, Day: 1}}, []int{0}},
		{weeks(5), "2199-12-31", nil, api.PortionWork, nil, []int{1}},
		{twoWeeks(0), "2199-12-26", []string{"2199-12-31"}, api.PortionDays, nil, []int{5, 1}},
		{twoWeeks(4), "1970-01-01", []string{"1970-01-02", "1970-01-04"}, api.PortionWork, nil, []int{1, 1, 0}},
	} {
		n := of(t, row.c, row.first)
		var cuts []int
		for _, s := range row.cuts {
			cuts = append(cuts, read(t, s))
		}
		got, err := period.Weights(row.c, n, cuts, row.method, row.holidays)
		if !slices.Equal(got, row.want) || err != api.OK {
			t.Errorf("Weights(%v, %s, %v, %d, %v) is %v, %v, want %v", row.c, row.first, row.cuts, row.method, row.holidays, got, err, row.want)
		}
	}
}

// all calls the three functions with the same arguments, and returns how many
// parts they return, and their errors.
func all(amount int, c api.PayCalendar, n int, cuts []int, method int, holidays []api.Holiday) (int, [3]api.Errno) {
	w, a := period.Weights(c, n, cuts, method, holidays)
	p, b := period.Portions(c, n, cuts, method, holidays)
	d, e := period.Divide(amount, c, n, cuts, method, holidays)
	return len(w) + len(p) + len(d), [3]api.Errno{a, b, e}
}

// refused fails unless the three functions return an error and no parts.
func refused(t *testing.T, c api.PayCalendar, n int, cuts []int, method int, holidays []api.Holiday, want api.Errno) {
	t.Helper()
	for _, amount := range []int{7, api.MaxAmount + 1} {
		if parts, err := all(amount, c, n, cuts, method, holidays); parts != 0 || err != [3]api.Errno{want, want, want} {
			t.Errorf("%v, %d, %v, %d, %d rules: %d parts, %v, want %v", c, n, cuts, method, len(holidays), parts, err, want)
		}
	}
}

func TestErrorsOfPeriods(t *testing.T) {
	for _, c := range invalid() {
		refused(t, c, 0, nil, api.PortionDays, nil, api.ErrRange)
	}
	for _, c := range calendars() {
		for _, n := range beyond(period.Count(c) - 1) {
			refused(t, c, n, nil, api.PortionDays, nil, api.ErrRange)
		}
	}
}

func TestErrorsOfMethods(t *testing.T) {
	for _, c := range calendars() {
		for _, method := range beyond(api.PortionThirty) {
			refused(t, c, 1, nil, method, nil, api.ErrRange)
		}
		if c != months {
			refused(t, c, 1, nil, api.PortionThirty, nil, api.ErrRange)
		}
	}
}

// Lists of two and three cuts near to the first and the last day, by the
// definition.
func TestErrorsOfCuts(t *testing.T) {
	for _, c := range []api.PayCalendar{months, halves, twoWeeks(4), weeks(1), weeks(5)} {
		for _, n := range []int{0, 1, 2, period.Count(c) - 2, period.Count(c) - 1} {
			days, _ := period.Span(c, n)
			near := []int{days.From - 1, days.From, days.From + 1, days.From + 2, days.To - 1, days.To, days.To + 1, 0, -1, api.MaxDay, math.MinInt, math.MaxInt}
			good := func(cut int) bool { return days.From < cut && cut <= days.To }
			for _, x := range near {
				check(t, c, n, []int{x}, good(x))
				for _, y := range near {
					check(t, c, n, []int{x, y}, good(x) && good(y) && x < y)
					for _, z := range near {
						check(t, c, n, []int{x, y, z}, good(x) && good(y) && good(z) && x < y && y < z)
					}
				}
			}
		}
	}
}

// check fails unless cuts are accepted or refused as they have to be.
func check(t *testing.T, c api.PayCalendar, n int, cuts []int, good bool) {
	t.Helper()
	w, err := period.Weights(c, n, cuts, api.PortionDays, nil)
	if good && (err != api.OK || len(w) != len(cuts)+1) || !good && (err != api.ErrInvalid || len(w) != 0) {
		t.Errorf("Weights(%v, %d, %v) is %v, %v", c, n, cuts, w, err)
	}
	if !good {
		refused(t, c, n, cuts, api.PortionDays, nil, api.ErrInvalid)
	}
}

func TestErrorsOfHolidays(t *testing.T) {
	for _, method := range methods(months) {
		refused(t, months, 3, []int{95}, method, []api.Holiday{{}}, api.ErrInvalid)
		refused(t, months, 3, []int{95}, method, []api.Holiday{{Month: 1, Day: 1}, {Kind: 3}}, api.ErrInvalid)
		refused(t, months, 3, []int{95}, method, make([]api.Holiday, api.MaxList+1), api.ErrLimit)
		refused(t, months, 3, []int{95, 95}, method, make([]api.Holiday, api.MaxList+1), api.ErrInvalid)
	}
	many := slices.Repeat([]api.Holiday{{Month: 4, Day: 2}}, api.MaxList)
	if got, err := period.Weights(months, 3, nil, api.PortionWork, many); !slices.Equal(got, []int{21}) || err != api.OK {
		t.Errorf("Weights with %d holidays are %v, %v", len(many), got, err)
	}
	refused(t, months, 3, nil, api.PortionWork, append(many, many[0]), api.ErrLimit)
}

// Each error hides the later ones, and is hidden by the earlier ones. The cuts
// are those of the day 0, which lies in no period behind the first one.
func TestOrderOfErrors(t *testing.T) {
	tooMany := make([]api.Holiday, api.MaxList+1)
	for _, c := range []api.PayCalendar{{Kind: 4}, weeks(7), months, halves, twoWeeks(13), weeks(6)} {
		for _, n := range []int{-1, 1, 12002} {
			for _, method := range []int{-1, api.PortionDays, api.PortionWork, api.PortionThirty, 3} {
				for _, cuts := range [][]int{nil, {0}} {
					for _, holidays := range [][]api.Holiday{nil, {{}}, tooMany} {
						want := first(c, n, method, cuts, holidays)
						parts, err := all(7, c, n, cuts, method, holidays)
						if err != [3]api.Errno{want, want, want} || (parts == 3) != (want == api.OK) {
							t.Errorf("%v, %d, %v, %d, %d rules: %d parts, %v, want %v", c, n, cuts, method, len(holidays), parts, err, want)
						}
					}
				}
			}
		}
	}
}

// first is the first error of the arguments of TestOrderOfErrors.
func first(c api.PayCalendar, n, method int, cuts []int, holidays []api.Holiday) api.Errno {
	switch {
	case c.Kind == 4 || c == weeks(7) || n != 1 || method < 0 || method > 2 || method == api.PortionThirty && c != months:
		return api.ErrRange
	case len(cuts) > 0 || len(holidays) == 1:
		return api.ErrInvalid
	case len(holidays) > 0:
		return api.ErrLimit
	}
	return api.OK
}

// P5.3

func TestPortions(t *testing.T) {
	someArguments(t, func(c api.PayCalendar, n int, cuts []int, method int, holidays []api.Holiday, weights []int) {
		got, err := period.Portions(c, n, cuts, method, holidays)
		sum := 0
		for _, w := range weights {
			sum += w
		}
		if sum == 0 {
			if len(got) != 0 || err != api.ErrZero {
				t.Fatalf("Portions of the weights %v are %v, %v", weights, got, err)
			}
			return
		}
		if len(got) != len(weights) || err != api.OK {
			t.Fatalf("Portions of the weights %v are %v, %v", weights, got, err)
		}
		whole := api.Ratio{Den: 1}
		for i, w := range weights {
			if got[i].Num*sum != w*got[i].Den || !ratio.Valid(got[i]) {
				t.Fatalf("Portions of the weights %v are %v", weights, got)
			}
			whole, _ = ratio.Add(whole, got[i])
		}
		if whole != (api.Ratio{Num: 1, Den: 1}) {
			t.Fatalf("Portions of the weights %v are %v", weights, got)
		}
	})
}

func TestPortionsOfExamples(t *testing.T) {
	november := of(t, months, "2026-11-01")
	for _, row := range []struct {
		cut    string
		method int
		want   []api.Ratio
	}{
		{"2026-11-11", api.PortionDays, []api.Ratio{{Num: 1, Den: 3}, {Num: 2, Den: 3}}},
		{"2026-11-02", api.PortionWork, []api.Ratio{{Num: 0, Den: 1}, {Num: 1, Den: 1}}},
		{"2026-11-16", api.PortionWork, []api.Ratio{{Num: 10, Den: 21}, {Num: 11, Den: 21}}},
		{"2026-11-30", api.PortionThirty, []api.Ratio{{Num: 29, Den: 30}, {Num: 1, Den: 30}}},
	} {
		got, err := period.Portions(months, november, []int{read(t, row.cut)}, row.method, nil)
		if !slices.Equal(got, row.want) || err != api.OK {
			t.Errorf("Portions with the cut %s and the method %d are %v, %v, want %v", row.cut, row.method, got, err, row.want)
		}
	}
}

// week16 are rules that make each day of the week of November 16, 2026 free.
func week16() []api.Holiday {
	var l []api.Holiday
	for date := 16; date <= 20; date++ {
		l = append(l, api.Holiday{Month: 11, Day: date})
	}
	return l
}

func TestNoWeight(t *testing.T) {
	c := weeks(4)
	n := of(t, c, "2026-11-16")
	sunday := read(t, "2026-11-22")
	for _, cuts := range [][]int{nil, {sunday}, {sunday - 5, sunday - 1}} {
		w, err := period.Weights(c, n, cuts, api.PortionWork, week16())
		if !slices.Equal(w, make([]int, len(cuts)+1)) || err != api.OK {
			t.Errorf("Weights with the cuts %v are %v, %v", cuts, w, err)
		}
		parts, errs := all(5, c, n, cuts, api.PortionWork, week16())
		if parts != len(cuts)+1 || errs != [3]api.Errno{api.OK, api.ErrZero, api.ErrZero} {
			t.Errorf("%d parts, %v with the cuts %v", parts, errs, cuts)
		}
		parts, errs = all(api.MaxAmount+1, c, n, cuts, api.PortionWork, week16())
		if parts != len(cuts)+1 || errs != [3]api.Errno{api.OK, api.ErrZero, api.ErrRange} {
			t.Errorf("%d parts, %v with the cuts %v and a great amount", parts, errs, cuts)
		}
		refused(t, c, n, append(slices.Clone(cuts), sunday+1), api.PortionWork, week16(), api.ErrInvalid)
	}
	if got, err := period.Portions(c, n, nil, api.PortionWork, week16()[1:]); !slices.Equal(got, []api.Ratio{{Num: 1, Den: 1}}) || err != api.OK {
		t.Errorf("Portions of a week with one working day are %v, %v", got, err)
	}
}

// P5.4

func TestDivide(t *testing.T) {
	r := rand.New(rand.NewSource(54))
	someArguments(t, func(c api.PayCalendar, n int, cuts []int, method int, holidays []api.Holiday, weights []int) {
		limits := []int{0, 1, -1, 100, -100, api.MaxAmount, -api.MaxAmount, api.MaxAmount + 1, -api.MaxAmount - 1, math.MinInt, math.MaxInt}
		amount := limits[r.Intn(len(limits))]
		if r.Intn(2) == 0 {
			amount = r.Intn(2*api.MaxAmount+1) - api.MaxAmount
		}
		got, err := period.Divide(amount, c, n, cuts, method, holidays)
		want, wantErr := rounding.Allocate(amount, weights)
		if !slices.Equal(got, want) || err != wantErr {
			t.Fatalf("Divide(%d) with the weights %v is %v, %v, want %v, %v", amount, weights, got, err, want, wantErr)
		}
		sum := 0
		for _, part := range got {
			sum += part
		}
		if err == api.OK && sum != amount {
			t.Fatalf("Divide(%d) with the weights %v is %v", amount, weights, got)
		}
	})
}

func TestDivideExamples(t *testing.T) {
	november := of(t, months, "2026-11-01")
	cuts := []int{read(t, "2026-11-11")}
	for amount, want := range map[int][]int{
		100: {33, 67}, -100: {-33, -67}, 0: {0, 0}, 1: {0, 1}, -1: {0, -1}, 2: {1, 1}, 3: {1, 2},
		api.MaxAmount: {333333333, 666666667}, -api.MaxAmount: {-333333333, -666666667},
	} {
		if got, err := period.Divide(amount, months, november, cuts, api.PortionDays, nil); !slices.Equal(got, want) || err != api.OK {
			t.Errorf("Divide(%d) is %v, %v, want %v", amount, got, err, want)
		}
	}
	for _, amount := range []int{api.MaxAmount + 1, -api.MaxAmount - 1, math.MinInt, math.MaxInt} {
		if got, err := period.Divide(amount, months, november, cuts, api.PortionDays, nil); len(got) != 0 || err != api.ErrRange {
			t.Errorf("Divide(%d) is %v, %v", amount, got, err)
		}
	}
	october := of(t, months, "2026-10-01")
	last := []int{read(t, "2026-10-31")}
	if got, err := period.Divide(1001, months, october, last, api.PortionThirty, nil); !slices.Equal(got, []int{1001, 0}) || err != api.OK {
		t.Errorf("Divide of October with a cut at its last day is %v, %v", got, err)
	}
}

// R2

// The cuts are a part of a longer list, which must not be written into.
func TestArgumentsAndResultsAreApart(t *testing.T) {
	november := of(t, months, "2026-11-01")
	from := read(t, "2026-11-01")
	list := []int{from + 5, from + 10, -1, -2, -3}
	cuts, holidays := list[:2], rules()
	parts := func() ([]int, []api.Ratio, []int) {
		w, _ := period.Weights(months, november, cuts, api.PortionWork, holidays)
		p, _ := period.Portions(months, november, cuts, api.PortionWork, holidays)
		d, _ := period.Divide(100, months, november, cuts, api.PortionWork, holidays)
		return w, p, d
	}
	w, p, d := parts()
	for _, l := range [][]int{w, d} {
		for i := range l[:cap(l)] {
			l[:cap(l)][i] = 77
		}
	}
	for i := range p[:cap(p)] {
		p[:cap(p)][i] = api.Ratio{Num: 77, Den: 1}
	}
	if !slices.Equal(list, []int{from + 5, from + 10, -1, -2, -3}) || !slices.Equal(holidays, rules()) {
		t.Error("an argument was changed")
	}
	again, portions, divided := parts()
	if !slices.Equal(again, []int{4, 3, 13}) || portions[2] != (api.Ratio{Num: 13, Den: 20}) || !slices.Equal(divided, []int{20, 15, 65}) {
		t.Errorf("results share memory: %v, %v, %v", again, portions, divided)
	}
}
