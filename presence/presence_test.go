package presence_test

import (
	"maps"
	"math"
	"math/rand"
	"slices"
	"testing"

	"payroll/api"
	"payroll/presence"
)

const (
	in     = api.EventIn
	out    = api.EventOut
	pause  = api.EventPause
	resume = api.EventResume

	noOut    = api.AnomalyNoOut
	noIn     = api.AnomalyNoIn
	long     = api.AnomalyLong
	noResume = api.AnomalyNoResume
	noPause  = api.AnomalyNoPause

	top  = api.MaxTime + 1 // the greatest end of an interval
	week = 10080           // the greatest limit of a stay
)

// stamps are stamps of pairs of a kind and a time.
func stamps(l ...int) []api.Stamp {
	var s []api.Stamp
	for i := 0; i < len(l); i += 2 {
		s = append(s, api.Stamp{Kind: l[i], Time: l[i+1]})
	}
	return s
}

// odd are anomalies of pairs of a kind and a time.
func odd(l ...int) []api.Anomaly {
	var a []api.Anomaly
	for i := 0; i < len(l); i += 2 {
		a = append(a, api.Anomaly{Kind: l[i], Time: l[i+1]})
	}
	return a
}

// intervals are intervals of pairs of ends.
func intervals(l ...int) []api.Interval {
	var s []api.Interval
	for i := 0; i < len(l); i += 2 {
		s = append(s, api.Interval{From: l[i], To: l[i+1]})
	}
	return s
}

// stay is a presence from its ends, and the ends of its breaks.
func stay(from, to int, breaks ...int) api.Presence {
	return api.Presence{Stay: api.Interval{From: from, To: to}, Breaks: intervals(breaks...)}
}

// stays is a list of presences.
func stays(l ...api.Presence) []api.Presence { return l }

// row are n intervals of one minute, from a minute on, with a distance.
func row(n, from, distance int) []api.Interval {
	l := make([]api.Interval, n)
	for i := range l {
		l[i] = api.Interval{From: from + i*distance, To: from + i*distance + 1}
	}
	return l
}

// staying are presences without breaks.
func staying(l []api.Interval) []api.Presence {
	p := make([]api.Presence, len(l))
	for i := range l {
		p[i].Stay = l[i]
	}
	return p
}

// head are the first elements of a list.
func head[T any](l []T) []T { return l[:min(len(l), 8)] }

// same reports whether presences are the same.
func same(a, b []api.Presence) bool {
	return slices.EqualFunc(a, b, func(x, y api.Presence) bool {
		return x.Stay == y.Stay && slices.Equal(x.Breaks, y.Breaks)
	})
}

// begun is the index of the stamp with which a stay began that has not ended before
// the stamp k, and -1 if there is none.
func begun(l []api.Stamp, k int) int {
	for i := k - 1; i >= 0 && l[i].Kind != out; i-- {
		if l[i].Kind == in {
			return i
		}
	}
	return -1
}

// breaks are the breaks of the stamps of a stay: a break lies between two stamps
// that follow each other, as a further pause drops it.
func breaks(l []api.Stamp) []api.Interval {
	var b []api.Interval
	for i := range len(l) - 1 {
		if l[i].Kind == pause && l[i+1].Kind != pause && l[i].Time < l[i+1].Time {
			b = append(b, api.Interval{From: l[i].Time, To: l[i+1].Time})
		}
	}
	return b
}

// definition is what Pair returns: what each stamp does follows from the stamp
// directly before it, and from the last one before it that began or ended a stay.
func definition(l []api.Stamp, longest int) ([]api.Presence, []api.Anomaly) {
	var p []api.Presence
	var a []api.Anomaly
	for k := range len(l) + 1 {
		i := begun(l, k)
		paused := i >= 0 && l[k-1].Kind == pause
		switch {
		case k == len(l) || l[k].Kind == in:
			if i >= 0 {
				a = append(a, odd(noOut, l[i].Time)...)
			}
			continue
		case i < 0:
			a = append(a, odd(noIn, l[k].Time)...)
			continue
		case l[k].Kind == resume && !paused:
			a = append(a, odd(noPause, l[k].Time)...)
		case l[k].Kind != resume && paused:
			a = append(a, odd(noResume, l[k-1].Time)...)
		}
		if l[k].Kind != out {
			continue
		}
		if n := l[k].Time - l[i].Time; n > longest {
			a = append(a, odd(long, l[i].Time)...)
		} else if n > 0 {
			p = append(p, api.Presence{Stay: api.Interval{From: l[i].Time, To: l[k].Time}, Breaks: breaks(l[i : k+1])})
		}
	}
	return p, a
}

// apart reports whether intervals have a minute each, lie within one from a minute
// to another one, and are in order without a common minute, each two of them.
func apart(l []api.Interval, from, to int) bool {
	for i, a := range l {
		if a.From < from || a.To > to || a.From >= a.To {
			return false
		}
		for _, b := range l[:i] {
			if b.To > a.From {
				return false
			}
		}
	}
	return true
}

// valid is the definition of a valid list of presences.
func valid(l []api.Presence) bool {
	var s []api.Interval
	for _, p := range l {
		s = append(s, p.Stay)
		if len(p.Breaks) > api.MaxList || !apart(p.Breaks, p.Stay.From, p.Stay.To) {
			return false
		}
	}
	return len(s) <= api.MaxList && apart(s, 0, top)
}

// minutes is the definition of what Minutes returns, minute by minute.
func minutes(p api.Presence) int {
	if !valid(stays(p)) {
		return 0
	}
	n := 0
	for m := p.Stay.From; m < p.Stay.To; m++ {
		if !slices.ContainsFunc(p.Breaks, func(b api.Interval) bool { return b.From <= m && m < b.To }) {
			n++
		}
	}
	return n
}

// expect checks what Pair returns without an error.
func expect(t *testing.T, l []api.Stamp, longest int, p []api.Presence, a []api.Anomaly) {
	t.Helper()
	gotP, gotA, err := presence.Pair(l, longest)
	if !same(gotP, p) || !slices.Equal(gotA, a) || err != api.OK {
		t.Errorf("Pair(%v, %d) is %v, %v, %v, want %v, %v", head(l), longest, head(gotP), head(gotA), err, head(p), head(a))
	}
	if err := presence.Valid(gotP); err != api.OK {
		t.Errorf("Pair(%v, %d) is %v, which is not valid: %v", head(l), longest, head(gotP), err)
	}
}

// refuse checks what Pair returns with an error.
func refuse(t *testing.T, l []api.Stamp, longest int, want api.Errno) {
	t.Helper()
	if p, a, err := presence.Pair(l, longest); len(p) != 0 || len(a) != 0 || err != want {
		t.Errorf("Pair(%v, %d) is %v, %v, %v, want %v", head(l), longest, head(p), head(a), err, want)
	}
}

// judge checks what Valid returns.
func judge(t *testing.T, l []api.Presence, want api.Errno) {
	t.Helper()
	if err := presence.Valid(l); err != want {
		t.Errorf("Valid(%v) is %v, want %v", head(l), err, want)
	}
}

// count checks what Minutes returns.
func count(t *testing.T, p api.Presence, want int) {
	t.Helper()
	if n := presence.Minutes(p); n != want {
		t.Errorf("Minutes(%v, %v) is %d, want %d", p.Stay, head(p.Breaks), n, want)
	}
}

// some are n stamps of all kinds, whose times go up by less than step.
func some(r *rand.Rand, n, step int) []api.Stamp {
	l := make([]api.Stamp, n)
	time := r.Intn(1000)
	for i := range l {
		time += r.Intn(step)
		l[i] = api.Stamp{Time: time, Kind: 1 + r.Intn(4), Key: api.Key{Terminal: r.Intn(9), Seq: r.Intn(99)}}
	}
	return l
}

// P9.1

// The chapter's examples.
func TestPairExamples(t *testing.T) {
	l := stamps(in, 480, pause, 720, resume, 750, out, 1020)
	expect(t, l, 600, stays(stay(480, 1020, 720, 750)), nil)
	if p, _, _ := presence.Pair(l, 600); len(p) != 1 || presence.Minutes(p[0]) != 510 {
		t.Errorf("the presences are %v", p)
	}
	expect(t, stamps(in, 480, in, 500, out, 1000), 600, stays(stay(500, 1000)), odd(noOut, 480))
	expect(t, stamps(out, 5), 600, nil, odd(noIn, 5))
}

func TestPairWithoutStamps(t *testing.T) {
	for _, longest := range []int{1, 600, week} {
		expect(t, nil, longest, nil, nil)
		expect(t, []api.Stamp{}, longest, nil, nil)
	}
}

// Each kind of stamp in each state, with a look at the state behind it: what a
// further stamp does tells the states apart.
func TestPairTable(t *testing.T) {
	for _, state := range []struct {
		before []api.Stamp
		p      []api.Presence
		a      []api.Anomaly
	}{
		{nil, nil, nil},
		{stamps(in, 1, out, 5), stays(stay(1, 5)), nil},
		{stamps(in, 1, pause, 3, out, 5), stays(stay(1, 5, 3, 5)), odd(noResume, 3)},
		{stamps(pause, 5), nil, odd(noIn, 5)},
		{stamps(in, 1, out, 1), nil, nil},
		{stamps(in, 0, out, 101), nil, odd(long, 0)},
	} {
		table := func(now []api.Stamp, p []api.Presence, a ...int) {
			t.Helper()
			expect(t, slices.Concat(state.before, now), 100, slices.Concat(state.p, p), slices.Concat(state.a, odd(a...)))
		}
		// Absent.
		table(stamps(in, 120), nil, noOut, 120)
		table(stamps(in, 120, resume, 130, out, 140), stays(stay(120, 140)), noPause, 130)
		for _, kind := range []int{out, pause, resume} {
			table(stamps(kind, 120), nil, noIn, 120)
			table(stamps(kind, 120, resume, 130), nil, noIn, 120, noIn, 130)
			table(stamps(kind, 120, out, 130), nil, noIn, 120, noIn, 130)
			table(stamps(kind, 120, in, 130, out, 140), stays(stay(130, 140)), noIn, 120)
		}
		// Present.
		table(stamps(in, 110, in, 120), nil, noOut, 110, noOut, 120)
		table(stamps(in, 110, in, 120, resume, 130, out, 140), stays(stay(120, 140)), noOut, 110, noPause, 130)
		table(stamps(in, 110, out, 120), stays(stay(110, 120)))
		table(stamps(in, 110, out, 120, resume, 130), stays(stay(110, 120)), noIn, 130)
		table(stamps(in, 110, pause, 120), nil, noOut, 110)
		table(stamps(in, 110, pause, 120, resume, 130, out, 140), stays(stay(110, 140, 120, 130)))
		table(stamps(in, 110, resume, 120), nil, noPause, 120, noOut, 110)
		table(stamps(in, 110, resume, 120, resume, 130, out, 140), stays(stay(110, 140)), noPause, 120, noPause, 130)
		// In a break.
		table(stamps(in, 110, pause, 115, in, 120), nil, noOut, 110, noOut, 120)
		table(stamps(in, 110, pause, 115, in, 120, resume, 130, out, 140), stays(stay(120, 140)), noOut, 110, noPause, 130)
		table(stamps(in, 110, pause, 115, out, 120), stays(stay(110, 120, 115, 120)), noResume, 115)
		table(stamps(in, 110, pause, 115, out, 120, resume, 130), stays(stay(110, 120, 115, 120)), noResume, 115, noIn, 130)
		table(stamps(in, 110, pause, 115, pause, 120), nil, noResume, 115, noOut, 110)
		table(stamps(in, 110, pause, 115, pause, 120, resume, 130, out, 140), stays(stay(110, 140, 120, 130)), noResume, 115)
		table(stamps(in, 110, pause, 115, resume, 120), nil, noOut, 110)
		table(stamps(in, 110, pause, 115, resume, 120, resume, 130, out, 140), stays(stay(110, 140, 115, 120)), noPause, 130)
	}
}

// Stays and breaks without any minute are dropped, and the stamps behind them are
// read as behind others.
func TestPairWithoutMinutes(t *testing.T) {
	expect(t, stamps(in, 7, out, 7), 9, nil, nil)
	expect(t, stamps(in, 0, out, 0, in, 0, out, 0), 9, nil, nil)
	expect(t, stamps(in, 7, pause, 7, resume, 7, out, 7), 9, nil, nil)
	expect(t, stamps(in, 7, out, 7, out, 7), 9, nil, odd(noIn, 7))
	expect(t, stamps(in, 7, out, 7, in, 7, out, 8), 9, stays(stay(7, 8)), nil)
	expect(t, stamps(in, 5, out, 7, in, 7, out, 7, in, 7, out, 8), 9, stays(stay(5, 7), stay(7, 8)), nil)
	expect(t, stamps(in, 1, pause, 5, resume, 5, out, 9), 9, stays(stay(1, 9)), nil)
	expect(t, stamps(in, 1, pause, 1, resume, 1, out, 9), 9, stays(stay(1, 9)), nil)
	expect(t, stamps(in, 1, pause, 9, resume, 9, out, 9), 9, stays(stay(1, 9)), nil)
	expect(t, stamps(in, 1, pause, 5, resume, 5, resume, 6, out, 9), 9, stays(stay(1, 9)), odd(noPause, 6))
	expect(t, stamps(in, 1, pause, 5, resume, 5, pause, 5, resume, 6, out, 9), 9, stays(stay(1, 9, 5, 6)), nil)
	expect(t, stamps(in, 1, pause, 3, resume, 5, pause, 5, resume, 5, out, 9), 9, stays(stay(1, 9, 3, 5)), nil)
	// Only a stay that has ended is dropped for its minutes.
	expect(t, stamps(in, 7, in, 7, in, 7, out, 8), 9, stays(stay(7, 8)), odd(noOut, 7, noOut, 7))
	// What was found in a stay that is dropped remains.
	expect(t, stamps(in, 7, resume, 7, out, 7), 9, nil, odd(noPause, 7))
	expect(t, stamps(in, 7, pause, 7, out, 7), 9, nil, odd(noResume, 7))
	expect(t, stamps(in, 7, pause, 7, pause, 7, resume, 7, out, 7), 9, nil, odd(noResume, 7))
}

// A break of the whole stay is one like others.
func TestPairOfWholeBreaks(t *testing.T) {
	expect(t, stamps(in, 1, pause, 1, resume, 9, out, 9), 9, stays(stay(1, 9, 1, 9)), nil)
	expect(t, stamps(in, 1, pause, 1, out, 9), 9, stays(stay(1, 9, 1, 9)), odd(noResume, 1))
	expect(t, stamps(in, 1, pause, 1, resume, 5, pause, 5, resume, 9, out, 9), 9, stays(stay(1, 9, 1, 5, 5, 9)), nil)
}

// A stay that has not ended behind the last stamp is dropped, with its breaks, and
// without a word about a break that has not ended.
func TestPairWithoutEnd(t *testing.T) {
	expect(t, stamps(in, 7), 9, nil, odd(noOut, 7))
	expect(t, stamps(in, 7, pause, 8), 9, nil, odd(noOut, 7))
	expect(t, stamps(in, 7, pause, 8, resume, 9), 9, nil, odd(noOut, 7))
	expect(t, stamps(in, 7, pause, 8, pause, 9), 9, nil, odd(noResume, 8, noOut, 7))
	expect(t, stamps(in, 7, resume, 8), 9, nil, odd(noPause, 8, noOut, 7))
	expect(t, stamps(in, 7, in, 8), 9, nil, odd(noOut, 7, noOut, 8))
	expect(t, stamps(in, 7, out, 8, in, 8), 9, stays(stay(7, 8)), odd(noOut, 8))
	expect(t, stamps(in, 7, pause, 8, resume, 9, out, 10, in, 12, pause, 15), 9, stays(stay(7, 10, 8, 9)), odd(noOut, 12))
	// However long it takes, and without any minute.
	expect(t, stamps(in, 0, pause, 900, resume, 5000), 9, nil, odd(noOut, 0))
	expect(t, stamps(in, 0, pause, 0), 9, nil, odd(noOut, 0))
}

// A break that has not ended ends with its stay, and is dropped for a new one.
func TestPairWithoutResume(t *testing.T) {
	expect(t, stamps(in, 1, pause, 5, out, 9), 9, stays(stay(1, 9, 5, 9)), odd(noResume, 5))
	expect(t, stamps(in, 1, pause, 9, out, 9), 9, stays(stay(1, 9)), odd(noResume, 9))
	expect(t, stamps(in, 1, pause, 2, resume, 3, pause, 5, out, 9), 9, stays(stay(1, 9, 2, 3, 5, 9)), odd(noResume, 5))
	expect(t, stamps(in, 1, pause, 2, resume, 3, pause, 9, out, 9), 9, stays(stay(1, 9, 2, 3)), odd(noResume, 9))
	expect(t, stamps(in, 1, pause, 5, pause, 7, resume, 8, out, 9), 9, stays(stay(1, 9, 7, 8)), odd(noResume, 5))
	expect(t, stamps(in, 1, pause, 5, pause, 7, out, 9), 9, stays(stay(1, 9, 7, 9)), odd(noResume, 5, noResume, 7))
	expect(t, stamps(in, 1, pause, 5, pause, 5, resume, 8, out, 9), 9, stays(stay(1, 9, 5, 8)), odd(noResume, 5))
	expect(t, stamps(in, 1, pause, 2, pause, 3, pause, 4, resume, 4, out, 9), 9, stays(stay(1, 9)), odd(noResume, 2, noResume, 3))
	expect(t, stamps(in, 1, pause, 2, resume, 4, pause, 5, pause, 6, resume, 7, out, 9), 9, stays(stay(1, 9, 2, 4, 6, 7)), odd(noResume, 5))
}

// The breaks of a stay that is dropped are dropped as well: they are in no other
// stay.
func TestPairOfDroppedBreaks(t *testing.T) {
	expect(t, stamps(in, 1, pause, 2, resume, 3, in, 4, out, 9), 9, stays(stay(4, 9)), odd(noOut, 1))
	expect(t, stamps(in, 1, pause, 2, resume, 3, pause, 4, in, 5, out, 9), 9, stays(stay(5, 9)), odd(noOut, 1))
	expect(t, stamps(in, 1, pause, 2, resume, 3, in, 4, pause, 5, resume, 6, out, 9), 9, stays(stay(4, 9, 5, 6)), odd(noOut, 1))
	expect(t, stamps(in, 1, pause, 2, resume, 3, out, 11, in, 12, out, 19), 9, stays(stay(12, 19)), odd(long, 1))
	expect(t, stamps(in, 1, pause, 2, resume, 3, out, 11, in, 12, pause, 13, resume, 15, out, 19), 9, stays(stay(12, 19, 13, 15)), odd(long, 1))
	expect(t, stamps(in, 1, pause, 2, resume, 3, out, 4, in, 5, out, 6), 9, stays(stay(1, 4, 2, 3), stay(5, 6)), nil)
	expect(t, stamps(in, 1, pause, 2, resume, 3, in, 4), 9, nil, odd(noOut, 1, noOut, 4))
}

func TestPairLongest(t *testing.T) {
	for _, longest := range []int{1, 2, 9, 600, week - 1, week} {
		for _, from := range []int{0, 1, 480, api.MaxTime - longest - 1} {
			to := from + longest
			expect(t, stamps(in, from, out, to), longest, stays(stay(from, to)), nil)
			expect(t, stamps(in, from, out, to+1), longest, nil, odd(long, from))
			// The break that ends with the stay is found first.
			expect(t, stamps(in, from, pause, from, out, to), longest, stays(stay(from, to, from, to)), odd(noResume, from))
			expect(t, stamps(in, from, pause, from, out, to+1), longest, nil, odd(noResume, from, long, from))
			expect(t, stamps(in, from, pause, to, out, to), longest, stays(stay(from, to)), odd(noResume, to))
			expect(t, stamps(in, from, pause, to, out, to+1), longest, nil, odd(noResume, to, long, from))
			expect(t, stamps(in, from, pause, to+1, out, to+1), longest, nil, odd(noResume, to+1, long, from))
			// Breaks do not make a stay shorter.
			expect(t, stamps(in, from, pause, from, resume, to, out, to), longest, stays(stay(from, to, from, to)), nil)
			expect(t, stamps(in, from, pause, from, resume, to, out, to+1), longest, nil, odd(long, from))
			expect(t, stamps(in, from, resume, to, out, to+1), longest, nil, odd(noPause, to, long, from))
			// Only a stay that ends is too long.
			expect(t, stamps(in, from, in, to+1), longest, nil, odd(noOut, from, noOut, to+1))
			expect(t, stamps(in, from, resume, to+1), longest, nil, odd(noPause, to+1, noOut, from))
			// The employee is absent behind it.
			expect(t, stamps(in, from, out, to+1, out, to+1), longest, nil, odd(long, from, noIn, to+1))
			expect(t, stamps(in, from, out, to+1, in, to+1), longest, nil, odd(long, from, noOut, to+1))
		}
	}
	expect(t, stamps(in, 0, out, api.MaxTime), week, nil, odd(long, 0))
	expect(t, stamps(in, 0, out, 10, in, 20, out, 31, in, 31, out, 41), 10, stays(stay(0, 10), stay(31, 41)), odd(long, 20))
}

// Stamps with one time are read in the order of the list.
func TestPairOfOneTime(t *testing.T) {
	expect(t, stamps(in, 1, out, 5, in, 5, out, 9), 9, stays(stay(1, 5), stay(5, 9)), nil)
	expect(t, stamps(in, 1, in, 5, out, 5, out, 9), 9, nil, odd(noOut, 1, noIn, 9))
	expect(t, stamps(out, 5, in, 5, out, 9), 9, stays(stay(5, 9)), odd(noIn, 5))
	expect(t, stamps(in, 1, pause, 2, resume, 4, pause, 4, resume, 6, out, 9), 9, stays(stay(1, 9, 2, 4, 4, 6)), nil)
	expect(t, stamps(in, 1, pause, 2, pause, 4, resume, 4, resume, 6, out, 9), 9, stays(stay(1, 9)), odd(noResume, 2, noPause, 6))
	expect(t, stamps(in, 1, pause, 2, resume, 9, out, 9), 9, stays(stay(1, 9, 2, 9)), nil)
	expect(t, stamps(in, 1, pause, 2, out, 9, resume, 9), 9, stays(stay(1, 9, 2, 9)), odd(noResume, 2, noIn, 9))
	expect(t, stamps(in, 0, in, 0, out, 3, out, 3), 9, stays(stay(0, 3)), odd(noOut, 0, noIn, 3))
}

func TestPairOfFirstAndLastTimes(t *testing.T) {
	const last = api.MaxTime
	for _, kind := range []int{out, pause, resume} {
		expect(t, stamps(kind, 0), 1, nil, odd(noIn, 0))
		expect(t, stamps(kind, last), 1, nil, odd(noIn, last))
		expect(t, stamps(kind, 0, kind, last), 1, nil, odd(noIn, 0, noIn, last))
	}
	expect(t, stamps(in, 0), 1, nil, odd(noOut, 0))
	expect(t, stamps(in, last), 1, nil, odd(noOut, last))
	expect(t, stamps(in, 0, in, last), 1, nil, odd(noOut, 0, noOut, last))
	expect(t, stamps(in, 0, out, 1), 1, stays(stay(0, 1)), nil)
	expect(t, stamps(in, last-1, out, last), 1, stays(stay(last-1, last)), nil)
	expect(t, stamps(in, last, out, last), 1, nil, nil)
	expect(t, stamps(in, 0, out, 5, in, last-4, pause, last-3, out, last), 9, stays(stay(0, 5), stay(last-4, last, last-3, last)), odd(noResume, last-3))
	expect(t, stamps(in, 0, pause, 0, resume, 1, out, 2), 9, stays(stay(0, 2, 0, 1)), nil)
	expect(t, stamps(in, last-9, pause, last-1, resume, last, out, last), 9, stays(stay(last-9, last, last-1, last)), nil)
}

// The keys of stamps have no meaning.
func TestPairOfKeys(t *testing.T) {
	l := stamps(in, 480, pause, 720, resume, 750, out, 1020)
	for i, k := range []api.Key{{Terminal: 9, Seq: 9}, {Terminal: -1}, {Seq: math.MinInt}, {Terminal: math.MaxInt, Seq: math.MaxInt}} {
		l[i].Key = k
	}
	expect(t, l, 600, stays(stay(480, 1020, 720, 750)), nil)
}

// All lists of up to five stamps whose times go up by up to two minutes.
func TestPairOfAllShortLists(t *testing.T) {
	for n := range 6 {
		all := 1
		for range n {
			all *= 12
		}
		for code := range all {
			l := make([]api.Stamp, n)
			time := 0
			for i := range l {
				time += code / 4 % 3
				l[i] = api.Stamp{Time: time, Kind: 1 + code%4}
				code /= 12
			}
			for longest := 1; longest <= 4; longest++ {
				p, a := definition(l, longest)
				expect(t, l, longest, p, a)
			}
		}
		if t.Failed() {
			return
		}
	}
}

func TestPairOfRandomLists(t *testing.T) {
	r := rand.New(rand.NewSource(91))
	found, strange := 0, map[int]int{}
	for range 10000 {
		l := some(r, r.Intn(60), []int{2, 5, 50, 2000}[r.Intn(4)])
		longest := 1 + r.Intn([]int{5, 100, week}[r.Intn(3)])
		p, a := definition(l, longest)
		expect(t, l, longest, p, a)
		found += len(p)
		for _, x := range a {
			strange[x.Kind]++
		}
		if t.Failed() {
			return
		}
	}
	if found < 15000 || len(strange) != noPause || slices.Min(slices.Collect(maps.Values(strange))) < 10000 {
		t.Errorf("the random lists have only %d presences and, by kinds, %v anomalies", found, strange)
	}
}

// The longest list of stamps.
func TestPairOfManyStamps(t *testing.T) {
	const n = api.MaxList
	l := make([]api.Stamp, n)
	check := func(longest int, p []api.Presence, a []api.Anomaly, kinds ...int) {
		t.Helper()
		for i := range l {
			l[i] = api.Stamp{Time: i, Kind: kinds[i%len(kinds)]}
		}
		expect(t, l, longest, p, a)
	}
	each := func(kind, from, to, step int) []api.Anomaly {
		var a []api.Anomaly
		for i := from; i < to; i += step {
			a = append(a, api.Anomaly{Kind: kind, Time: i})
		}
		return a
	}
	check(1, staying(row(n/2, 0, 2)), nil, in, out)
	check(1, nil, each(noOut, 0, n, 1), in)
	for _, kind := range []int{out, pause, resume} {
		check(1, nil, each(noIn, 0, n, 1), kind)
	}
	check(1, staying(row(n/2-1, 1, 2)), odd(noIn, 0, noOut, n-1), out, in)

	// One stay with as many breaks, or anomalies, as it can have.
	full := api.Presence{Stay: api.Interval{From: 0, To: n - 1}, Breaks: row(n/2-1, 1, 2)}
	for i := range l {
		l[i] = api.Stamp{Time: i, Kind: pause + (i+1)%2}
	}
	l[0].Kind, l[n-1].Kind = in, out
	expect(t, l, n-1, stays(full), nil)
	expect(t, l, n-2, nil, odd(long, 0))
	for i := range l[2 : n-1] {
		l[i+2].Kind = pause
	}
	expect(t, l, n-1, stays(stay(0, n-1, n-2, n-1)), each(noResume, 1, n-1, 1))
	expect(t, l, n-2, nil, append(each(noResume, 1, n-1, 1), odd(long, 0)...))
	for i := range l[1 : n-1] {
		l[i+1].Kind = resume
	}
	expect(t, l, n-1, stays(stay(0, n-1)), each(noPause, 1, n-1, 1))
}

func TestPairLimit(t *testing.T) {
	for _, n := range []int{api.MaxList + 1, api.MaxList + 2, 5 * api.MaxList} {
		l := make([]api.Stamp, n)
		refuse(t, l, 1, api.ErrLimit)
		for i := range l {
			l[i] = api.Stamp{Time: i, Kind: in + i%2}
		}
		refuse(t, l, 1, api.ErrLimit)
		refuse(t, l, week, api.ErrLimit)
		expect(t, l[:api.MaxList], 1, staying(row(api.MaxList/2, 0, 2)), nil)
	}
}

func TestPairRange(t *testing.T) {
	good := stamps(in, 5, out, 6)
	for _, longest := range []int{math.MinInt, -week, -1, 0, week + 1, api.MaxTime, math.MaxInt} {
		refuse(t, nil, longest, api.ErrRange)
		refuse(t, good, longest, api.ErrRange)
	}
	for _, longest := range []int{1, 2, week - 1, week} {
		expect(t, nil, longest, nil, nil)
		expect(t, good, longest, stays(stay(5, 6)), nil)
	}
}

// wrong are stamps that no list may have.
func wrong() []api.Stamp {
	var l []api.Stamp
	for _, kind := range []int{math.MinInt, -1, 0, api.EventCancel, api.EventCorrect, 7, 8, 1 << 32, 1<<32 + 1, math.MaxInt} {
		l = append(l, stamps(kind, 5)...)
	}
	for kind := in; kind <= resume; kind++ {
		for _, time := range []int{math.MinInt, -1, api.MaxTime + 1, 1<<32 + 5, math.MaxInt} {
			l = append(l, stamps(kind, time)...)
		}
	}
	return l
}

func TestPairOfInvalidStamps(t *testing.T) {
	good := stamps(in, 5, pause, 5, resume, 5, out, 5)
	most := slices.Repeat(good, api.MaxList/4)
	for _, s := range wrong() {
		refuse(t, []api.Stamp{s}, 1, api.ErrInvalid)
		for i := range len(good) + 1 {
			refuse(t, slices.Insert(slices.Clone(good), i, s), 1, api.ErrInvalid)
		}
		for _, i := range []int{0, 500, api.MaxList - 1} {
			l := slices.Clone(most)
			l[i] = s
			refuse(t, l, 1, api.ErrInvalid)
		}
	}
	expect(t, most, 1, nil, nil)
}

// Times that go back, by a minute or more, between any two stamps.
func TestPairOfTimesThatGoBack(t *testing.T) {
	for kind := in; kind <= resume; kind++ {
		for other := in; other <= resume; other++ {
			for _, times := range [][2]int{{1, 0}, {5, 4}, {1440, 5}, {api.MaxTime, 0}, {api.MaxTime, api.MaxTime - 1}} {
				l := stamps(kind, times[0], other, times[1])
				refuse(t, l, 9, api.ErrInvalid)
				l[1].Time = l[0].Time
				p, a := definition(l, 9)
				expect(t, l, 9, p, a)
			}
		}
	}
	for i := 1; i < 6; i++ {
		l := stamps(in, 10, pause, 20, resume, 30, out, 40, in, 50, out, 60)
		l[i].Time = l[i-1].Time - 1
		refuse(t, l, 60, api.ErrInvalid)
		l[i].Time = l[i-1].Time
		p, a := definition(l, 60)
		expect(t, l, 60, p, a)
	}
	// It is the stamp directly before that counts, not the first one.
	refuse(t, stamps(in, 1, pause, 5, resume, 3, out, 9), 9, api.ErrInvalid)
	l := make([]api.Stamp, api.MaxList)
	for i := range l {
		l[i] = api.Stamp{Time: 9, Kind: in}
	}
	l[api.MaxList-1].Time = 8
	refuse(t, l, 9, api.ErrInvalid)
}

func TestPairErrorsInOrder(t *testing.T) {
	many, most := make([]api.Stamp, api.MaxList+1), make([]api.Stamp, api.MaxList)
	back := stamps(in, 5, out, 4)
	for _, longest := range []int{math.MinInt, 0, week + 1, math.MaxInt} {
		refuse(t, many, longest, api.ErrLimit)
		refuse(t, most, longest, api.ErrRange)
		refuse(t, back, longest, api.ErrRange)
		for _, s := range wrong() {
			refuse(t, []api.Stamp{s}, longest, api.ErrRange)
		}
	}
	refuse(t, many, 1, api.ErrLimit)
	refuse(t, most, 1, api.ErrInvalid)
	refuse(t, back, 1, api.ErrInvalid)
}

// Each stamp is the beginning or the end of a stay or break, of one that was
// dropped, or an anomaly; and each of those is at a stamp of its kind. (No two
// stamps have one time.)
func TestPairAccountsForStamps(t *testing.T) {
	r := rand.New(rand.NewSource(92))
	for range 5000 {
		l := some(r, 1+r.Intn(30), 40)
		for i := range l {
			l[i].Time += i
		}
		p, a, err := presence.Pair(l, 1+r.Intn(120))
		if err != api.OK {
			t.Fatalf("Pair(%v) returns %v", l, err)
		}
		ends := edges(p)
		for k, s := range l {
			has := func(kind, time int) bool { return slices.Contains(a, api.Anomaly{Kind: kind, Time: time}) }
			dropped := begun(l, k) >= 0 && (has(noOut, l[begun(l, k)].Time) || has(long, l[begun(l, k)].Time))
			ok := slices.Contains(ends, api.Stamp{Kind: s.Kind, Time: s.Time})
			switch s.Kind {
			case in:
				ok = ok || has(noOut, s.Time) || has(long, s.Time)
			case out:
				ok = ok || has(noIn, s.Time) || dropped
			case pause:
				ok = ok || has(noIn, s.Time) || has(noResume, s.Time) || dropped
			case resume:
				ok = ok || has(noIn, s.Time) || has(noPause, s.Time) || dropped
			}
			if !ok {
				t.Fatalf("Pair(%v) is %v, %v, without the stamp %d", l, p, a, k)
			}
		}
		at := func(e api.Stamp) bool { return slices.Contains(keyless(l), e) }
		for _, e := range ends {
			if !at(e) {
				t.Fatalf("Pair(%v) is %v, but %v is no stamp", l, p, e)
			}
		}
		for i, x := range a {
			kinds := [][]int{noOut: {in}, noIn: {out, pause, resume}, long: {in}, noResume: {pause}, noPause: {resume}}[x.Kind]
			if slices.Contains(a[:i], x) || !slices.ContainsFunc(kinds, func(kind int) bool { return at(api.Stamp{Kind: kind, Time: x.Time}) }) {
				t.Fatalf("Pair(%v) has the anomalies %v, but no stamp of %v", l, a, x)
			}
		}
	}
}

// edges are the beginnings and ends of presences and of their breaks. A break that
// ends with its stay has no end of its own.
func edges(l []api.Presence) []api.Stamp {
	var s []api.Stamp
	for _, p := range l {
		s = append(s, stamps(in, p.Stay.From, out, p.Stay.To)...)
		for _, b := range p.Breaks {
			s = append(s, stamps(pause, b.From)...)
			if b.To != p.Stay.To {
				s = append(s, stamps(resume, b.To)...)
			}
		}
	}
	return s
}

// keyless are stamps without their keys.
func keyless(l []api.Stamp) []api.Stamp {
	l = slices.Clone(l)
	for i := range l {
		l[i].Key = api.Key{}
	}
	return l
}

// P9.2

func TestValidStays(t *testing.T) {
	judge(t, nil, api.OK)
	judge(t, stays(), api.OK)
	for _, l := range [][]int{
		{5, 9}, {0, 1}, {0, top}, {top - 1, top}, {api.MaxTime, top}, {0, 1, top - 1, top},
		{0, 5, 5, 9}, {0, 5, 6, 9}, {0, 5, 5, 6, 6, 7}, {0, 1, 1, top}, {480, 1020, 1920, 2460},
	} {
		judge(t, staying(intervals(l...)), api.OK)
	}
	for _, l := range [][]int{
		// Without any minute, or less.
		{0, 0}, {5, 5}, {5, 4}, {9, 5}, {1, 0}, {top, top}, {top, 0}, {0, 5, 5, 5}, {0, 5, 7, 7}, {0, 0, 0, 5}, {0, 5, 7, 6},
		// Not within the permitted times.
		{-1, 5}, {-5, -1}, {-1, 0}, {0, top + 1}, {top - 1, top + 1}, {top, top + 1}, {-1, top + 1},
		{0, 5, 5, top + 1}, {-1, 5, 5, 9}, {math.MinInt, 5}, {0, math.MaxInt}, {math.MinInt, math.MaxInt},
		{math.MaxInt, math.MinInt}, {math.MaxInt - 1, math.MaxInt}, {math.MinInt, math.MinInt + 1}, {math.MinInt, math.MinInt},
		// Not one behind the other.
		{0, 5, 4, 9}, {0, 5, 0, 5}, {0, 9, 3, 5}, {0, 9, 8, 9}, {3, 5, 0, 9}, {5, 9, 0, 5}, {5, 9, 0, 4}, {5, 9, 4, 6},
		{0, 1, 4, 6, 2, 3}, {0, 1, 4, 6, 5, 7}, {0, 3, 4, 6, 2, 3}, {4, 6, 0, 1, 1, 2}, {0, 5, 6, 9, 5, 6},
	} {
		judge(t, staying(intervals(l...)), api.ErrInvalid)
	}
}

func TestValidBreaks(t *testing.T) {
	for _, p := range []api.Presence{
		{Stay: api.Interval{From: 5, To: 9}, Breaks: []api.Interval{}},
		stay(5, 9, 5, 6), stay(5, 9, 6, 8), stay(5, 9, 8, 9), stay(5, 9, 5, 9), stay(5, 9, 5, 6, 6, 9), stay(5, 9, 5, 6, 8, 9),
		stay(5, 9, 5, 6, 6, 7, 7, 8, 8, 9), stay(0, top, 0, top), stay(0, top, 0, 1, top-1, top), stay(top-1, top, top-1, top),
	} {
		judge(t, stays(p), api.OK)
		judge(t, stays(p, stay(top-1, top))[:1], api.OK)
	}
	for _, p := range []api.Presence{
		// Without any minute, or less.
		stay(5, 9, 6, 6), stay(5, 9, 5, 5), stay(5, 9, 9, 9), stay(5, 9, 7, 6), stay(5, 9, 9, 5), stay(5, 9, 6, 7, 7, 7), stay(0, 9, 0, 0),
		// Not within the stay, though within the permitted times.
		stay(5, 9, 4, 6), stay(5, 9, 4, 5), stay(5, 9, 8, 10), stay(5, 9, 9, 10), stay(5, 9, 4, 10), stay(5, 9, 0, 1), stay(5, 9, 20, 30),
		stay(5, 9, 6, 7, 8, 10), stay(5, 9, 4, 6, 7, 8), stay(5, 9, 6, 7, 9, 10), stay(5, 9, 0, 2, 6, 7),
		// Not within the permitted times.
		stay(0, 9, -1, 5), stay(5, top, 6, top+1), stay(5, 9, math.MinInt, math.MaxInt), stay(5, 9, math.MinInt, 6), stay(5, 9, 6, math.MaxInt),
		stay(5, 9, math.MaxInt, math.MinInt),
		// Not one behind the other.
		stay(5, 9, 6, 8, 7, 9), stay(5, 9, 7, 8, 5, 6), stay(5, 9, 6, 8, 6, 8), stay(5, 9, 5, 9, 6, 7), stay(5, 9, 6, 7, 5, 9),
		stay(5, 9, 7, 9, 5, 7), stay(0, 9, 0, 1, 4, 6, 2, 3), stay(0, 9, 0, 1, 4, 6, 5, 7),
		// The stay is not valid, but its breaks would be in another one.
		stay(-1, 9, 0, 1), stay(0, top+1, 0, 1), stay(9, 5, 6, 7), stay(5, 5, 5, 6),
	} {
		judge(t, stays(p), api.ErrInvalid)
		judge(t, stays(p, stay(top-1, top)), api.ErrInvalid)
		judge(t, stays(stay(0, 1), p), api.ErrInvalid)
		count(t, p, 0)
	}
	// The breaks of one stay do not concern those of another one.
	judge(t, stays(stay(0, 5, 3, 5), stay(5, 9, 5, 6)), api.OK)
	judge(t, stays(stay(0, 5, 3, 4), stay(5, 9, 3, 4)), api.ErrInvalid)
	judge(t, stays(stay(0, 5, 6, 7), stay(5, 9, 3, 4)), api.ErrInvalid)
	judge(t, stays(stay(0, 5), stay(5, 9, 4, 6)), api.ErrInvalid)
	judge(t, stays(stay(0, 5, 4, 6), stay(5, 9)), api.ErrInvalid)
}

func TestValidLimits(t *testing.T) {
	const n = api.MaxList
	for _, distance := range []int{1, 2, 1440} {
		l := row(n+1, 0, distance)
		whole := api.Interval{From: 0, To: top}
		judge(t, staying(l[:n]), api.OK)
		judge(t, staying(l[1:]), api.OK)
		judge(t, staying(l), api.ErrInvalid)
		judge(t, stays(api.Presence{Stay: whole, Breaks: l[:n]}), api.OK)
		judge(t, stays(api.Presence{Stay: whole, Breaks: l}), api.ErrInvalid)
		count(t, api.Presence{Stay: whole, Breaks: l[:n]}, top-n)
		count(t, api.Presence{Stay: whole, Breaks: l}, 0)
	}
	judge(t, make([]api.Presence, n), api.ErrInvalid)
	judge(t, make([]api.Presence, n+1), api.ErrInvalid)
	judge(t, staying(row(5*n, 0, 2)), api.ErrInvalid)
	// The limits are those of a list, not of all breaks together.
	l := stays()
	for i := range 8 {
		l = append(l, api.Presence{Stay: api.Interval{From: i * 3000, To: i*3000 + 3000}, Breaks: row(n, i*3000, 2)})
	}
	judge(t, l, api.OK)
	l[7].Breaks = row(n+1, 7*3000, 2)
	judge(t, l, api.ErrInvalid)
	// The last stay and the last break count, too.
	last := staying(row(n, 0, 2))
	last[n-1].Stay.From--
	judge(t, last, api.OK)
	last[n-1].Stay.From--
	judge(t, last, api.ErrInvalid)
	p := api.Presence{Stay: api.Interval{From: 0, To: 2*n - 1}, Breaks: row(n, 0, 2)}
	count(t, p, n-1)
	p.Stay.To--
	judge(t, stays(p), api.ErrInvalid)
	count(t, p, 0)
}

// All pairs of stays, and all presences with up to two breaks, of a few times: at
// the least permitted time, and at the greatest.
func TestValidAndMinutesOfAllSmall(t *testing.T) {
	for _, base := range []int{-1, top - 3} {
		ends := func(code int) api.Interval {
			return api.Interval{From: base + code%5, To: base + code/5%5}
		}
		verify := func(l []api.Presence) {
			t.Helper()
			want := api.ErrInvalid
			if valid(l) {
				want = api.OK
			}
			judge(t, l, want)
			if len(l) == 1 {
				count(t, l[0], minutes(l[0]))
			}
		}
		for a := range 25 {
			verify(stays(api.Presence{Stay: ends(a)}))
			for b := range 25 {
				verify(stays(api.Presence{Stay: ends(a)}, api.Presence{Stay: ends(b)}))
				verify(stays(api.Presence{Stay: ends(a), Breaks: []api.Interval{ends(b)}}))
				for c := range 25 {
					verify(stays(api.Presence{Stay: ends(a), Breaks: []api.Interval{ends(b), ends(c)}}))
					verify(stays(api.Presence{Stay: ends(a)}, api.Presence{Stay: ends(b), Breaks: []api.Interval{ends(c)}}))
				}
			}
		}
	}
}

func TestMinutesExamples(t *testing.T) {
	count(t, stay(480, 1020, 720, 750), 510)
	count(t, stay(480, 1020), 540)
	count(t, stay(0, 1), 1)
	count(t, stay(0, 5, 0, 5), 0)
	count(t, stay(0, 9, 0, 1, 1, 3, 8, 9), 5)
	count(t, stay(0, top), top)
	count(t, stay(0, top, 0, 1, top-1, top), top-2)
	count(t, stay(top-1, top), 1)
	// Longer than any limit of a stay.
	count(t, stay(0, 2*week, 1, week), week+1)
	// Others.
	count(t, api.Presence{}, 0)
	count(t, api.Presence{Breaks: row(3, 0, 1)}, 0)
	for _, p := range []api.Presence{
		stay(5, 0), stay(5, 5), stay(-1, 5), stay(0, top+1), stay(math.MinInt, math.MaxInt), stay(math.MaxInt, math.MinInt),
		stay(0, 5, 0, 6), stay(0, 9, 3, 3), stay(0, 9, 3, 5, 4, 6), stay(0, 9, 5, 6, 3, 4), stay(-9, 0), stay(0, math.MaxInt, 0, math.MaxInt-3),
	} {
		count(t, p, 0)
	}
}

// R2, R6

// Lists are parts of arrays with further elements before and behind them, which
// stay as they are, too; and what is written into one result, or appended to a part
// of it, changes nothing else.
func TestArgumentsAndResultsAreApart(t *testing.T) {
	r := rand.New(rand.NewSource(93))
	for range 2000 {
		whole := some(r, 80, 20)
		was := slices.Clone(whole)
		l := whole[5:70]
		p, a, _ := presence.Pair(l, 100)
		again, strange, _ := presence.Pair(l, 100)
		if !slices.Equal(whole, was) {
			t.Fatalf("the stamps are %v, were %v", whole, was)
		}
		wantP, wantA := definition(l, 100)
		clear(whole)
		for _, x := range again {
			clear(x.Breaks[:cap(x.Breaks)])
		}
		clear(again[:cap(again)])
		clear(strange[:cap(strange)])
		if !same(p, wantP) || !slices.Equal(a, wantA) {
			t.Fatalf("Pair(%v, 100) is %v, %v, want %v, %v", was[5:70], p, a, wantP, wantA)
		}
		for i := range p {
			b := p[i].Breaks
			clear(b[:cap(b)])
			copy(b, wantP[i].Breaks)
			if !same(p, wantP) {
				t.Fatalf("the breaks of %v share memory", wantP)
			}
		}
	}
}

func TestValidAndMinutesLeaveArguments(t *testing.T) {
	for _, build := range []func() []api.Presence{
		func() []api.Presence { return stays(stay(0, 9, 1, 3, 5, 7), stay(9, 20, 9, 10), stay(30, 40)) },
		func() []api.Presence { return stays(stay(0, 9, 5, 7, 1, 3), stay(5, 20, 9, 30), stay(3, 4)) },
	} {
		l := build()
		err, n := presence.Valid(l[:2]), presence.Minutes(l[0])
		if !same(l, build()) || presence.Valid(l[:2]) != err || presence.Minutes(l[0]) != n {
			t.Errorf("the presences are %v, were %v", l, build())
		}
	}
}
