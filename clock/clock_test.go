package clock_test

import (
	"math"
	"math/rand"
	"slices"
	"testing"
	"time"

	"payroll/api"
	"payroll/clock"
)

const end = api.MaxTime + 1

// zone is a zone with changes: instant, offset, instant, offset and so on.
func zone(offset int, changes ...int) api.Zone {
	z := api.Zone{Offset: offset}
	for c := range slices.Chunk(changes, 2) {
		z.Changes = append(z.Changes, api.ClockChange{At: c[0], Offset: c[1]})
	}
	return z
}

// window is a range of instants, to excluded, that contains all changes of
// the zones that are examined in it.
type window struct{ from, to int }

func windows() []window {
	return []window{{0, 7000}, {1440000, 1447000}, {end - 7000, end}}
}

// patterns are zones with changes in a window.
func patterns(w window) []api.Zone {
	a, z := w.from, w.to-1
	return []api.Zone{
		zone(0), zone(1), zone(-1), zone(60), zone(-60), zone(330), zone(-840), zone(840), zone(839), zone(-839),
		zone(60, a+2000, 120, a+4000, 60),                                    // forward and back
		zone(120, a+2000, 60, a+4000, 120),                                   // back and forward
		zone(60, a+2000, 120, a+2700, 180), zone(60, a+2000, 0, a+2030, -60), // in the same direction
		zone(60, a+2000, 60), zone(60, a+2000, 120, a+2001, 120, a+2002, 120), // changes that change nothing
		zone(0, a+3000, 1), zone(0, a+3000, -1), // by a minute
		zone(-840, a+2000, 840), zone(840, a+2000, -840), // as far as possible
		zone(-840, a+3480, 840), zone(-840, a+3640, 840), // days without instants
		zone(-840, a+3500, 840, a+3501, -840), zone(-840, a+3500, 840, a+3500+1680, -840), // and back
		zone(120, a+2820, 60, a+2850, 120, a+2880, 60),                                        // several times a day
		zone(60, a+2820, 120, a+2850, 60, a+2880, 120, a+2910, 60, a+2911, 120),               // the same local minutes
		zone(0, a+2000, -10, a+2010, -20, a+2020, -30, a+2030, -40, a+2040, -50, a+2050, -60), // one local minute shown many times
		zone(30, a, -30), zone(-30, a, 30), zone(840, a, -840), zone(-840, a, 840), zone(60, a+1, 120), zone(120, a+1, 60), zone(0, a, 60, a+1, 0, a+2, 60, a+3, 0),
		zone(30, z, -30), zone(-30, z, 30), zone(840, z, -840), zone(-840, z, 840), zone(60, z-1, 120, z, 60), zone(120, z-2, 60, z-1, 120, z, 60),
		zone(0, a, 840, z, -840), zone(0, a, -840, z, 840), zone(0, a+1439, 60, a+1441, -60, a+2880, 0),
	}
}

// anyZone is a zone with changes in a window, chosen at random: near together
// and far apart, by few minutes and by many.
func anyZone(random *rand.Rand, w window) api.Zone {
	offsets := []int{-840, -720, -60, -30, -1, 0, 1, 30, 60, 120, 720, 840, random.Intn(1681) - 840}
	z := zone(offsets[random.Intn(len(offsets))])
	for at := w.from + []int{0, 1, random.Intn(3000)}[random.Intn(3)]; at < w.to && len(z.Changes) < api.MaxChanges; {
		z.Changes = append(z.Changes, api.ClockChange{At: at, Offset: offsets[random.Intn(len(offsets))]})
		at += 1 + random.Intn([]int{1, 5, 60, 1000, 5000}[random.Intn(5)])
	}
	return z
}

// everyZone calls f with zones and windows that contain their changes.
func everyZone(f func(api.Zone, window)) {
	random := rand.New(rand.NewSource(1))
	for _, w := range windows() {
		for _, z := range patterns(w) {
			f(z, w)
		}
		for range 60 {
			f(anyZone(random, w), w)
		}
	}
}

// offset is the definition of the chapter.
func offset(z api.Zone, t int) int {
	o := z.Offset
	for _, c := range z.Changes {
		if c.At <= t {
			o = c.Offset
		}
	}
	return o
}

// decided are the local minutes, to excluded, for which the instants of a
// window decide: no other instant shows one of them, or comes first.
func decided(w window) (from, to int) {
	from, to = w.from+840, w.to-840
	if w.from == 0 {
		from = -2000
	}
	if w.to == end {
		to = end + 2000
	}
	return from, to
}

// first is the least instant of a window from which a local minute or a later
// one is shown, and the end of the window if there is none.
func first(z api.Zone, w window, local int) int {
	for t := w.from; t < w.to; t++ {
		if t+offset(z, t) >= local {
			return t
		}
	}
	return w.to
}

// begin is the definition of the chapter, for days whose first minute the
// window decides.
func begin(z api.Zone, w window, day int) int {
	switch day {
	case 0:
		return 0
	case api.MaxDay + 1:
		return end
	}
	return first(z, w, day*1440)
}

// beyond are integers that are not from low to high.
func beyond(low, high int) []int {
	return []int{low - 1, low - 2, high + 1, high + 2, low - 1<<32, high + 1<<32, math.MinInt, math.MinInt + 1, math.MinInt + 840, math.MaxInt - 840, math.MaxInt - 1, math.MaxInt}
}

// farLocals are local minutes that no zone shows.
func farLocals() []int { return beyond(-840, api.MaxTime+840) }

// P4.1

// checkErrors checks the error of all functions for a zone, with arguments
// that are in range and with others.
func checkErrors(t *testing.T, z api.Zone, want api.Errno) {
	t.Helper()
	outer := want
	if want == api.OK {
		outer = api.ErrRange
	}
	if err := clock.Valid(z); err != want {
		t.Errorf("Valid(%v) is %v, want %v", z, err, want)
	}
	check := func(name string, arg, value int, err, want api.Errno) {
		t.Helper()
		if err != want || err != api.OK && value != 0 {
			t.Errorf("%s(%v, %d) is %d, %v, want %v", name, z, arg, value, err, want)
		}
	}
	checkInstant := func(x int, want api.Errno) {
		t.Helper()
		o, err := clock.Offset(z, x)
		check("Offset", x, o, err, want)
		l, err := clock.Local(z, x)
		check("Local", x, l, err, want)
		d, err := clock.Day(z, x)
		check("Day", x, d, err, want)
	}
	for _, x := range []int{0, 1, 1439, 1440000, api.MaxTime - 1, api.MaxTime} {
		checkInstant(x, want)
	}
	for _, x := range beyond(0, api.MaxTime) {
		checkInstant(x, outer)
	}
	for _, d := range []int{0, 1, 1000, api.MaxDay, api.MaxDay + 1} {
		b, err := clock.Begin(z, d)
		check("Begin", d, b, err, want)
	}
	for _, d := range beyond(0, api.MaxDay+1) {
		b, err := clock.Begin(z, d)
		check("Begin", d, b, err, outer)
	}
	for _, l := range append(farLocals(), -840, -1, 0, 60, 1440000, api.MaxTime, api.MaxTime+840) {
		f, err := clock.First(z, l)
		check("First", l, f, err, want)
		all, err := clock.Instants(z, l)
		check("Instants", l, len(all), err, want)
	}
}

// steps is a zone with n changes.
func steps(n int) api.Zone {
	z := zone(0)
	for i := range n {
		z.Changes = append(z.Changes, api.ClockChange{At: 10 * i, Offset: i - 30})
	}
	return z
}

func TestValidZones(t *testing.T) {
	everyZone(func(z api.Zone, _ window) {
		if err := clock.Valid(z); err != api.OK {
			t.Errorf("Valid(%v) is %v", z, err)
		}
	})
	for _, z := range []api.Zone{
		{}, {Offset: 840, Changes: []api.ClockChange{}}, zone(-840), zone(840), zone(0, 0, 0), zone(0, 0, 840, api.MaxTime, -840),
		zone(0, api.MaxTime, 840), zone(0, api.MaxTime-1, -840, api.MaxTime, 840), zone(60, 5, 60, 6, 60), steps(api.MaxChanges - 1), steps(api.MaxChanges),
	} {
		checkErrors(t, z, api.OK)
	}
}

func TestNumberOfChanges(t *testing.T) {
	for _, n := range []int{api.MaxChanges + 1, api.MaxChanges + 2, 10 * api.MaxChanges} {
		z := steps(api.MaxChanges)
		z.Changes = append(z.Changes, steps(n).Changes[api.MaxChanges:]...)
		checkErrors(t, z, api.ErrLimit)
		z.Offset = 841 // out of range, too
		checkErrors(t, z, api.ErrLimit)
		checkErrors(t, api.Zone{Changes: make([]api.ClockChange, n)}, api.ErrLimit) // not ascending, too
		z.Changes[0].At, z.Changes[1].Offset = -1, 900
		checkErrors(t, z, api.ErrLimit)
	}
	z := steps(api.MaxChanges)
	z.Changes[api.MaxChanges-1].Offset = 841
	checkErrors(t, z, api.ErrRange)
	z = steps(api.MaxChanges)
	z.Changes[api.MaxChanges-1].At = z.Changes[api.MaxChanges-2].At
	checkErrors(t, z, api.ErrInvalid)
}

func TestZonesOutOfRange(t *testing.T) {
	for _, o := range beyond(-840, 840) {
		for _, z := range []api.Zone{
			zone(o), zone(o, 10, 60), zone(o, 10, 60, 10, 0), zone(0, 0, o), zone(0, 10, 60, 20, o), zone(0, 10, o, 20, 0),
			zone(0, 10, 60, 20, o, 30, 0), zone(0, api.MaxTime, o),
		} {
			checkErrors(t, z, api.ErrRange)
		}
	}
	for _, at := range beyond(0, api.MaxTime) {
		for _, z := range []api.Zone{zone(0, at, 60), zone(0, 10, 60, at, 0), zone(0, at, 60, 20, 0), zone(0, 10, 60, at, 0, 30, 60)} {
			checkErrors(t, z, api.ErrRange)
		}
	}
}

func TestChangesThatDoNotAscend(t *testing.T) {
	for _, z := range []api.Zone{
		zone(0, 5, 60, 5, 0), zone(0, 5, 60, 5, 60), zone(0, 5, 60, 4, 0), zone(0, 0, 60, 0, 0), zone(0, api.MaxTime, 60, api.MaxTime, 0),
		zone(0, api.MaxTime, 60, 0, 0), zone(0, 5, 60, 6, 0, 6, 60), zone(0, 5, 60, 7, 0, 6, 60), zone(0, 5, 60, 4, 0, 6, 60), zone(0, 5, 60, 5, 0, 6, 60),
	} {
		checkErrors(t, z, api.ErrInvalid)
	}
}

func TestOrderOfErrors(t *testing.T) {
	for _, c := range []struct {
		z    api.Zone
		want api.Errno
	}{
		{zone(841, 5, 60, 5, 0), api.ErrRange}, {zone(-841, 5, 60, 4, 0), api.ErrRange}, // the zone before its changes
		{zone(0, 5, 60, 4, 841), api.ErrRange}, {zone(0, 5, 60, -1, 0), api.ErrRange}, {zone(0, 5, 60, 5, -841), api.ErrRange}, // of one change
		{zone(0, 5, 60, 4, 0, 6, 841), api.ErrInvalid}, {zone(0, 5, 60, 5, 0, api.MaxTime+1, 0), api.ErrInvalid}, {zone(0, 5, 60, 5, 0, -1, 0), api.ErrInvalid},
		{zone(0, 5, 841, 4, 0), api.ErrRange}, {zone(0, -1, 0, -2, 0), api.ErrRange}, {zone(0, 5, 60, 6, 841, 4, 0), api.ErrRange}, // of several changes
		{zone(0, api.MaxTime+1, 60, 5, 0), api.ErrRange},
	} {
		checkErrors(t, c.z, c.want)
	}
}

// P4.2

func TestEveryInstant(t *testing.T) {
	everyZone(func(z api.Zone, w window) {
		for x := w.from; x < w.to; x++ {
			want := offset(z, x)
			if got, err := clock.Offset(z, x); err != api.OK || got != want {
				t.Fatalf("Offset(%v, %d) is %d, %v, want %d", z, x, got, err, want)
			}
			if got, err := clock.Local(z, x); err != api.OK || got != x+want {
				t.Fatalf("Local(%v, %d) is %d, %v, want %d", z, x, got, err, x+want)
			}
		}
	})
}

func TestInstantsFarFromChanges(t *testing.T) {
	z := zone(60, 1440000, 120, 2880000, -60)
	for _, c := range []struct{ t, offset int }{
		{0, 60}, {1, 60}, {1439999, 60}, {1440000, 120}, {2000000, 120}, {2879999, 120}, {2880000, -60}, {100000000, -60}, {api.MaxTime, -60},
	} {
		if got, err := clock.Offset(z, c.t); err != api.OK || got != c.offset {
			t.Errorf("Offset(%d) is %d, %v, want %d", c.t, got, err, c.offset)
		}
		if got, err := clock.Local(z, c.t); err != api.OK || got != c.t+c.offset {
			t.Errorf("Local(%d) is %d, %v, want %d", c.t, got, err, c.t+c.offset)
		}
	}
}

func TestLocalBeyondInstants(t *testing.T) {
	for o := -840; o <= 840; o++ {
		for _, z := range []api.Zone{zone(o), zone(0, 0, o), zone(-o, 0, 17, 1, o)} {
			if got, err := clock.Local(z, api.MaxTime); err != api.OK || got != api.MaxTime+o {
				t.Errorf("Local(%v, MaxTime) is %d, %v", z, got, err)
			}
		}
		if got, err := clock.Local(zone(o), 0); err != api.OK || got != o {
			t.Errorf("Local(%d, 0) is %d, %v", o, got, err)
		}
	}
}

// P4.3

func TestEveryLocalMinute(t *testing.T) {
	everyZone(func(z api.Zone, w window) {
		all := map[int][]int{}
		for x := w.from; x < w.to; x++ {
			l := x + offset(z, x)
			all[l] = append(all[l], x)
		}
		from, to := decided(w)
		least := w.from
		for l := from; l < to; l++ {
			if got, err := clock.Instants(z, l); err != api.OK || !slices.Equal(got, all[l]) {
				t.Fatalf("Instants(%v, %d) is %v, %v, want %v", z, l, got, err, all[l])
			}
			for least < w.to && least+offset(z, least) < l {
				least++
			}
			if got, err := clock.First(z, l); err != api.OK || got != least {
				t.Fatalf("First(%v, %d) is %d, %v, want %d", z, l, got, err, least)
			}
		}
	})
}

func TestFarLocalMinutes(t *testing.T) {
	everyZone(func(z api.Zone, _ window) {
		for _, l := range farLocals() {
			if got, err := clock.Instants(z, l); err != api.OK || len(got) > 0 {
				t.Errorf("Instants(%v, %d) is %v, %v", z, l, got, err)
			}
			want := 0
			if l > 0 {
				want = end
			}
			if got, err := clock.First(z, l); err != api.OK || got != want {
				t.Errorf("First(%v, %d) is %d, %v, want %d", z, l, got, err, want)
			}
		}
	})
}

func TestLocalMinuteExamples(t *testing.T) {
	forward, back := zone(60, 1440000, 120), zone(120, 1440000, 60)
	comb := zone(0)
	var shown []int
	for i := range api.MaxChanges {
		comb.Changes = append(comb.Changes, api.ClockChange{At: 1440000 + 10*i, Offset: 320 - 10*i})
		shown = append(shown, 1440000+10*i)
	}
	for _, c := range []struct {
		z     api.Zone
		local int
		all   []int
		first int
	}{
		// Set forward, set back.
		{forward, 1440059, []int{1439999}, 1439999}, {forward, 1440060, nil, 1440000}, {forward, 1440061, nil, 1440000}, {forward, 1440119, nil, 1440000},
		{forward, 1440120, []int{1440000}, 1440000}, {forward, 1440121, []int{1440001}, 1440001},
		{back, 1440059, []int{1439939}, 1439939}, {back, 1440060, []int{1439940, 1440000}, 1439940}, {back, 1440090, []int{1439970, 1440030}, 1439970},
		{back, 1440119, []int{1439999, 1440059}, 1439999}, {back, 1440120, []int{1440060}, 1440060},
		// The same local minute after each of 64 changes, and before the first one.
		{comb, 1440320, shown, 1440000}, {comb, 1440321, func() []int {
			var l []int
			for _, x := range shown {
				l = append(l, x+1)
			}
			return l
		}(), 1440001},
		// The first and the last instants.
		{zone(0), -1, nil, 0}, {zone(0), 0, []int{0}, 0}, {zone(0), 1, []int{1}, 1}, {zone(0), api.MaxTime, []int{api.MaxTime}, api.MaxTime}, {zone(0), api.MaxTime + 1, nil, end},
		{zone(60), 59, nil, 0}, {zone(60), 60, []int{0}, 0}, {zone(60), 61, []int{1}, 1}, {zone(60), api.MaxTime + 60, []int{api.MaxTime}, api.MaxTime}, {zone(60), api.MaxTime + 61, nil, end},
		{zone(-60), -61, nil, 0}, {zone(-60), -60, []int{0}, 0}, {zone(-60), -1, []int{59}, 59}, {zone(-60), 0, []int{60}, 60}, {zone(-60), api.MaxTime - 60, []int{api.MaxTime}, api.MaxTime},
		{zone(-60), api.MaxTime - 59, nil, end}, {zone(-60), api.MaxTime, nil, end}, {zone(-840), -840, []int{0}, 0}, {zone(-840), -841, nil, 0},
		{zone(840), api.MaxTime + 840, []int{api.MaxTime}, api.MaxTime}, {zone(840), api.MaxTime + 841, nil, end},
		// Nothing is shown with the offset of a zone that changes at the instant 0.
		{zone(840, 0, -840), 840, []int{1680}, 1680}, {zone(840, 0, -840), 500, []int{1340}, 1340}, {zone(-840, 0, 840), -840, nil, 0}, {zone(-840, 0, 840), 0, nil, 0},
		{zone(60, 0, -60), -60, []int{0}, 0}, {zone(60, 0, -60), -61, nil, 0},
		// A change at the last instant.
		{zone(0, api.MaxTime, 60), api.MaxTime - 1, []int{api.MaxTime - 1}, api.MaxTime - 1}, {zone(0, api.MaxTime, 60), api.MaxTime, nil, api.MaxTime},
		{zone(0, api.MaxTime, 60), api.MaxTime + 60, []int{api.MaxTime}, api.MaxTime}, {zone(0, api.MaxTime, 60), api.MaxTime + 61, nil, end},
		{zone(0, api.MaxTime, -60), api.MaxTime, nil, end}, {zone(0, api.MaxTime, -60), api.MaxTime - 60, []int{api.MaxTime - 60, api.MaxTime}, api.MaxTime - 60},
	} {
		if got, err := clock.Instants(c.z, c.local); err != api.OK || !slices.Equal(got, c.all) {
			t.Errorf("Instants(%v, %d) is %v, %v, want %v", c.z, c.local, got, err, c.all)
		}
		if got, err := clock.First(c.z, c.local); err != api.OK || got != c.first {
			t.Errorf("First(%v, %d) is %d, %v, want %d", c.z, c.local, got, err, c.first)
		}
	}
}

// P4.4 and P4.5

// days are the days whose beginnings a window decides.
func days(w window) (from, to int) {
	low, high := decided(w)
	return (max(low, 0) + 1439) / 1440, min((high-1)/1440, api.MaxDay+1)
}

func TestDaysOfWindows(t *testing.T) {
	everyZone(func(z api.Zone, w window) {
		from, to := days(w)
		var begins []int
		for day := from; day <= to; day++ {
			want := begin(z, w, day)
			if got, err := clock.Begin(z, day); err != api.OK || got != want {
				t.Fatalf("Begin(%v, %d) is %d, %v, want %d", z, day, got, err, want)
			}
			begins = append(begins, want)
		}
		for x := begins[0]; x < begins[len(begins)-1]; x++ {
			want := 0
			for i, b := range begins {
				if b <= x {
					want = from + i
				}
			}
			if got, err := clock.Day(z, x); err != api.OK || got != want {
				t.Fatalf("Day(%v, %d) is %d, %v, want %d", z, x, got, err, want)
			}
		}
	})
}

func TestDayExamples(t *testing.T) {
	skip := zone(-840, 15000, 840)                   // no instant has the day 10
	late := zone(120, 14310, 60)                     // set back by an hour when the day 10 is 30 minutes old
	often := zone(60, 14370, 0, 14380, 60, 14385, 0) // the clock goes back into the day 9 twice
	for _, c := range []struct {
		z          api.Zone
		day, begin int
	}{
		{zone(60), 0, 0}, {zone(60), 1, 1380}, {zone(60), 2, 2820}, {zone(-60), 0, 0}, {zone(-60), 1, 1500}, {zone(840), 1, 600}, {zone(-840), 1, 2280}, {zone(0), 1, 1440},
		{zone(0), api.MaxDay, end - 1440}, {zone(60), api.MaxDay, end - 1500}, {zone(-60), api.MaxDay, end - 1380}, {zone(840), api.MaxDay, end - 2280}, {zone(-840), api.MaxDay, end - 600},
		{zone(0), api.MaxDay + 1, end}, {zone(60), api.MaxDay + 1, end}, {zone(840), api.MaxDay + 1, end}, {zone(-840), api.MaxDay + 1, end}, {zone(0, api.MaxTime, 840), api.MaxDay + 1, end},
		{zone(-840, 0, 840), 0, 0}, {zone(-840, 0, 840), 1, 600}, {zone(840, 0, -840), 1, 2280},
		{skip, 9, 13800}, {skip, 10, 15000}, {skip, 11, 15000}, {skip, 12, 16440},
		{late, 9, 12840}, {late, 10, 14280}, {late, 11, 15780}, {often, 9, 12900}, {often, 10, 14340}, {often, 11, 15840},
		{zone(-840, api.MaxTime, 840), api.MaxDay, end - 600}, {zone(-840, end-840, 840), api.MaxDay, end - 840},
	} {
		if got, err := clock.Begin(c.z, c.day); err != api.OK || got != c.begin {
			t.Errorf("Begin(%v, %d) is %d, %v, want %d", c.z, c.day, got, err, c.begin)
		}
	}
	for _, c := range []struct {
		z      api.Zone
		t, day int
	}{
		{zone(60), 0, 0}, {zone(60), 1379, 0}, {zone(60), 1380, 1}, {zone(60), 2819, 1}, {zone(60), 2820, 2},
		{zone(-840), 0, 0}, {zone(-840), 839, 0}, {zone(-840), 2279, 0}, {zone(-840), 2280, 1}, {zone(840), 0, 0}, {zone(840), 599, 0}, {zone(840), 600, 1},
		{zone(0), api.MaxTime, api.MaxDay}, {zone(840), api.MaxTime, api.MaxDay}, {zone(-840), api.MaxTime, api.MaxDay}, {zone(840), end - 840, api.MaxDay},
		{zone(840), end - 2281, api.MaxDay - 1}, {zone(840), end - 2280, api.MaxDay}, {zone(-840), end - 601, api.MaxDay - 1}, {zone(-840), end - 600, api.MaxDay},
		{skip, 14999, 9}, {skip, 15000, 11}, {skip, 16439, 11}, {skip, 16440, 12},
		// Days do not go back when the local minute does.
		{late, 14279, 9}, {late, 14280, 10}, {late, 14310, 10}, {late, 14339, 10}, {late, 14340, 10}, {late, 15779, 10}, {late, 15780, 11},
		{often, 14339, 9}, {often, 14340, 10}, {often, 14370, 10}, {often, 14385, 10}, {often, 14399, 10}, {often, 14400, 10}, {often, 15839, 10}, {often, 15840, 11},
		{zone(0, api.MaxTime, -840), api.MaxTime, api.MaxDay}, {zone(0, api.MaxTime, 840), api.MaxTime, api.MaxDay}, {zone(840, api.MaxTime, -840), api.MaxTime, api.MaxDay},
	} {
		if got, err := clock.Day(c.z, c.t); err != api.OK || got != c.day {
			t.Errorf("Day(%v, %d) is %d, %v, want %d", c.z, c.t, got, err, c.day)
		}
	}
}

// lastSunday is the instant at 1:00 of universal time on the last Sunday of a
// month with 31 days.
func lastSunday(year int, month time.Month) int {
	t := time.Date(year, month, 31, 1, 0, 0, 0, time.UTC)
	return int(t.AddDate(0, 0, -int(t.Weekday())).Unix() / 60)
}

// centralEurope has as many changes as a zone can have, from 2010 to 2041.
func centralEurope() api.Zone {
	z := zone(60)
	for year := 2010; len(z.Changes) < api.MaxChanges; year++ {
		z.Changes = append(z.Changes, api.ClockChange{At: lastSunday(year, time.March), Offset: 120}, api.ClockChange{At: lastSunday(year, time.October), Offset: 60})
	}
	return z
}

func TestLengthsOfDays(t *testing.T) {
	z := centralEurope()
	special := map[int]int{0: 1380, api.MaxDay: 1500}
	for i, c := range z.Changes {
		special[c.At/1440] = 1380 + 120*(i%2)
	}
	sum := 0
	for day := 0; day <= api.MaxDay; day++ {
		from, err := clock.Begin(z, day)
		to, err2 := clock.Begin(z, day+1)
		want, ok := special[day]
		if !ok {
			want = 1440
		}
		if err != api.OK || err2 != api.OK || from != sum || to-from != want {
			t.Fatalf("the day %d is from %d to %d, %v, %v, want %d minutes from %d on", day, from, to, err, err2, want, sum)
		}
		sum = to
		for _, x := range []int{from, from + 1, from + 700, to - 2, to - 1} {
			if got, err := clock.Day(z, x); err != api.OK || got != day {
				t.Fatalf("Day(%d) is %d, %v, want %d", x, got, err, day)
			}
		}
	}
	if sum != end {
		t.Errorf("the days have %d minutes", sum)
	}
}

// Every instant lies in its day and in no other one.
func TestDaysDivideInstants(t *testing.T) {
	random := rand.New(rand.NewSource(2))
	for _, w := range append(windows(), window{0, end}) {
		for range 20 {
			z := anyZone(random, w)
			if w.to-w.from == end {
				for i := range z.Changes {
					z.Changes[i].At = (2*i + random.Intn(2)) * (end / 2 / len(z.Changes))
				}
			}
			before := 0
			for day := 0; day <= api.MaxDay; day++ {
				from, err := clock.Begin(z, day)
				to, err2 := clock.Begin(z, day+1)
				if err != api.OK || err2 != api.OK || from != before || to < from {
					t.Fatalf("%v: the day %d is from %d to %d, %v, %v", z, day, from, to, err, err2)
				}
				before = to
				if from == to {
					continue
				}
				for _, x := range []int{from, from + random.Intn(to-from), to - 1} {
					if got, err := clock.Day(z, x); err != api.OK || got != day {
						t.Fatalf("Day(%v, %d) is %d, %v, want %d", z, x, got, err, day)
					}
				}
			}
			if before != end {
				t.Fatalf("%v: the last day ends at %d", z, before)
			}
		}
	}
}

// R2

func TestArgumentsAndResultsAreApart(t *testing.T) {
	z := zone(120, 1440000, 60, 1440010, 120, 1440020, 60)
	changes := slices.Clone(z.Changes)
	first, err := clock.Instants(z, 1440090)
	if want := []int{1439970, 1440030}; err != api.OK || !slices.Equal(first, want) {
		t.Fatalf("Instants is %v, %v, want %v", first, err, want)
	}
	kept := slices.Clone(first)
	second, _ := clock.Instants(z, 1440090)
	for i := range second[:cap(second)] {
		second[:cap(second)][i] = -5
	}
	if !slices.Equal(first, kept) {
		t.Errorf("writing into a result changed another one to %v", first)
	}
	if third, _ := clock.Instants(z, 1440090); !slices.Equal(third, kept) {
		t.Errorf("writing into a result changed a later one to %v", third)
	}
	clock.Valid(z)
	clock.Offset(z, 1440015)
	clock.Local(z, 1440015)
	clock.First(z, 1440090)
	clock.Begin(z, 1000)
	clock.Day(z, 1440015)
	if !slices.Equal(z.Changes, changes) {
		t.Errorf("the changes became %v", z.Changes)
	}
	z.Changes[0].Offset = -60 // the next call sees the zone as it is then
	if got, err := clock.Offset(z, 1440005); err != api.OK || got != -60 {
		t.Errorf("Offset is %d, %v", got, err)
	}
}
