package inbox_test

import (
	"math"
	"math/rand"
	"slices"
	"testing"

	"payroll/api"
	"payroll/inbox"
)

func key(terminal, seq int) api.Key { return api.Key{Terminal: terminal, Seq: seq} }

// stamped is a stamp event, whose key has the terminal 1.
func stamped(seq, employee, time, kind int) api.Event {
	return api.Event{Key: key(1, seq), Employee: employee, Time: time, Kind: kind}
}

// cancel cancels the event of a key.
func cancel(k api.Key, employee int, target api.Key) api.Event {
	return api.Event{Key: k, Employee: employee, Kind: api.EventCancel, Target: target}
}

// correct corrects the time of the event of a key.
func correct(k api.Key, employee, time int, target api.Key) api.Event {
	return api.Event{Key: k, Employee: employee, Time: time, Kind: api.EventCorrect, Target: target}
}

// stamp is an effective event, whose key has the terminal 1.
func stamp(time, kind, seq int) api.Stamp {
	return api.Stamp{Time: time, Kind: kind, Key: key(1, seq)}
}

// full are n different valid events, in ascending order.
func full(n int) []api.Event {
	l := make([]api.Event, n)
	for i := range l {
		l[i] = stamped(i, 1+i%3, n-i, 1+i%4)
	}
	return l
}

// short are the first events of a list.
func short(l []api.Event) []api.Event { return l[:min(len(l), 4)] }

// numbers are the numbers of an event in the order of events.
func numbers(e *api.Event) []*int {
	return []*int{&e.Key.Terminal, &e.Key.Seq, &e.Employee, &e.Time, &e.Kind, &e.Target.Terminal, &e.Target.Seq}
}

// with is e with another number.
func with(e api.Event, field, n int) api.Event {
	*numbers(&e)[field] = n
	return e
}

// order is the order of events: that of their numbers.
func order(a, b api.Event) int {
	x, y := numbers(&a), numbers(&b)
	for i := range x {
		if *x[i] < *y[i] {
			return -1
		}
		if *x[i] > *y[i] {
			return 1
		}
	}
	return 0
}

// orderKeys is the order of keys.
func orderKeys(a, b api.Key) int { return order(api.Event{Key: a}, api.Event{Key: b}) }

// insert puts an element into an ascending list, if it is not there.
func insert[T comparable](l []T, x T, order func(a, b T) int) []T {
	i := 0
	for i < len(l) && order(l[i], x) < 0 {
		i++
	}
	if i < len(l) && l[i] == x {
		return l
	}
	return slices.Insert(l, i, x)
}

// union is the definition of what Merge returns.
func union(a, b []api.Event) []api.Event {
	var all []api.Event
	for _, e := range slices.Concat(a, b) {
		all = insert(all, e, order)
	}
	return all
}

// counts is the definition of whether an event of a list counts.
func counts(l []api.Event, e api.Event) bool {
	return !slices.ContainsFunc(l, func(d api.Event) bool { return d.Key == e.Key && order(d, e) < 0 })
}

// conflicts is the definition of what Conflicts returns.
func conflicts(l []api.Event) []api.Key {
	var keys []api.Key
	for _, a := range l {
		for _, b := range l {
			if a.Key == b.Key && a != b {
				keys = insert(keys, a.Key, orderKeys)
			}
		}
	}
	return keys
}

// effective is the definition of what Effective returns.
func effective(l []api.Event, employee int) []api.Stamp {
	var stamps []api.Stamp
	for _, e := range l {
		if e.Employee != employee || e.Kind > 4 || !counts(l, e) {
			continue
		}
		s := api.Stamp{Time: e.Time, Kind: e.Kind, Key: e.Key}
		cancelled, best := false, key(-1, 0)
		for _, d := range l {
			if d.Employee != employee || d.Kind < 5 || d.Target != e.Key || !counts(l, d) {
				continue
			}
			if d.Kind == 5 {
				cancelled = true
			} else if orderKeys(d.Key, best) > 0 {
				s.Time, best = d.Time, d.Key
			}
		}
		if !cancelled {
			stamps = insert(stamps, s, orderStamps)
		}
	}
	return stamps
}

// orderStamps is the order of the stamps of an employee.
func orderStamps(a, b api.Stamp) int {
	return order(api.Event{Key: key(a.Time, a.Key.Terminal), Employee: a.Key.Seq}, api.Event{Key: key(b.Time, b.Key.Terminal), Employee: b.Key.Seq})
}

// shuffled is l in another order, with some of its elements repeated.
func shuffled(r *rand.Rand, l []api.Event) []api.Event {
	m := slices.Clone(l)
	for range r.Intn(4) {
		if len(l) > 0 {
			m = append(m, l[r.Intn(len(l))])
		}
	}
	r.Shuffle(len(m), func(i, k int) { m[i], m[k] = m[k], m[i] })
	return m
}

// some are n valid events with few keys, so that many of them are in conflict and
// have the keys of others as targets.
func some(r *rand.Rand, n, keys, employees, times int) []api.Event {
	var l []api.Event
	one := func() api.Key {
		k := r.Intn(keys)
		return key(k%3, k/3)
	}
	for range n {
		e := api.Event{Key: one(), Employee: 1 + r.Intn(employees), Time: r.Intn(times), Kind: 1 + r.Intn(8)}
		if e.Kind > 4 {
			e.Kind, e.Target = 5+e.Kind%2, one()
		}
		l = append(l, e)
		if r.Intn(5) == 0 {
			l = append(l, l[r.Intn(len(l))])
		}
	}
	return l
}

// extremes are valid events with the least and the greatest numbers.
func extremes() []api.Event {
	most := key(65535, api.Sequences)
	var l []api.Event
	for kind := 1; kind <= 6; kind++ {
		low := api.Event{Employee: 1, Kind: kind}
		high := api.Event{Key: most, Employee: api.Sequences, Time: api.MaxTime, Kind: kind}
		l = append(l, low, high)
		if kind > 4 {
			high.Target = most
			low.Target = most
			l = append(l, low, high)
		}
	}
	return l
}

// wrong are events that are not valid in one number.
func wrong() []api.Event {
	low := []int{0, 0, 1, 0, 1, 0, 0}
	high := []int{65535, api.Sequences, api.Sequences, api.MaxTime, 6, 65535, api.Sequences}
	var l []api.Event
	for kind := 1; kind <= 6; kind++ {
		e := api.Event{Key: key(2, 3), Employee: 4, Time: 5, Kind: kind}
		for i := range low {
			for _, n := range []int{math.MinInt, low[i] - 1, high[i] + 1, math.MaxInt} {
				l = append(l, with(e, i, n))
			}
		}
		if kind <= 4 {
			l = append(l, with(e, 5, 1), with(e, 6, 1), with(e, 5, 65535), with(e, 6, api.Sequences))
		}
	}
	return append(l, api.Event{}, with(cancel(key(1, 1), 1, key(1, 2)), 4, 4), with(correct(key(1, 1), 1, 1, key(1, 2)), 4, 7))
}

// merge checks what Merge returns for two lists.
func merge(t *testing.T, a, b, want []api.Event, code api.Errno) {
	t.Helper()
	if got, err := inbox.Merge(a, b); !slices.Equal(got, want) || err != code {
		t.Errorf("Merge(%v, %v) is %v, %v, want %v, %v", short(a), short(b), got, err, short(want), code)
	}
}

// conflict checks what Conflicts returns for a list, in both directions.
func conflict(t *testing.T, l []api.Event, want ...api.Key) {
	t.Helper()
	for range 2 {
		if got, err := inbox.Conflicts(l); !slices.Equal(got, want) || err != api.OK {
			t.Errorf("Conflicts(%v) is %v, %v, want %v", l, got, err, want)
		}
		l = slices.Clone(l)
		slices.Reverse(l)
	}
}

// expect checks the stamps of the employee 7 in a list: in each rotation of it, in
// both directions, and with each element repeated.
func expect(t *testing.T, l []api.Event, want ...api.Stamp) {
	t.Helper()
	check := func(l []api.Event) {
		t.Helper()
		if got, err := inbox.Effective(l, 7); !slices.Equal(got, want) || err != api.OK {
			t.Errorf("Effective(%v, 7) is %v, %v, want %v", l, got, err, want)
		}
	}
	check(l)
	for i := range l {
		m := slices.Concat(l[i:], l[:i])
		check(m)
		check(append(slices.Clone(m), l[i]))
		check(slices.Concat(m, m))
		slices.Reverse(m)
		check(m)
	}
}

// P8.1

// Compare orders by the first number that differs, whatever the others are. It
// compares events that are not valid, too.
func TestCompareFields(t *testing.T) {
	ascending := []int{math.MinInt, math.MinInt + 1, -api.Sequences, -1, 0, 1, 2, 10, 65535, api.MaxTime, api.Sequences, math.MaxInt - 1, math.MaxInt}
	for _, e := range append(extremes(), api.Event{}, correct(key(5, 6), 7, 8, key(9, 10))) {
		for field := range 7 {
			for i, m := range ascending {
				for k, n := range ascending {
					want := 0
					if i < k {
						want = -1
					} else if i > k {
						want = 1
					}
					a, b := with(e, field, m), with(e, field, n)
					if got := inbox.Compare(a, b); got != want {
						t.Errorf("Compare(%v, %v) is %d, want %d", a, b, got, want)
					}
					if want == 0 {
						continue
					}
					// What counts less is the other way round.
					for later := field + 1; later < 7; later++ {
						a, b = with(a, later, -want), with(b, later, want)
						if got := inbox.Compare(a, b); got != want {
							t.Errorf("Compare(%v, %v) is %d, want %d", a, b, got, want)
						}
					}
				}
			}
		}
	}
}

func TestCompareExamples(t *testing.T) {
	// Each two neighbours differ in one more number than those before, and the
	// numbers that count less are the other way round.
	l := []api.Event{
		{}, {Target: key(0, 1)}, {Target: key(1, 0)}, {Kind: 1}, {Kind: 2, Target: key(0, 5)}, {Time: 1}, {Time: 1, Kind: 1},
		{Time: 2}, {Employee: 1}, {Employee: 1, Time: 3}, {Employee: 2, Time: 2}, {Key: key(0, 1)}, {Key: key(0, 1), Employee: 4},
		{Key: key(0, 2), Employee: 3}, {Key: key(1, 0)}, {Key: key(1, 1)}, {Key: key(2, 0), Employee: -1}, {Key: key(10, 0)},
	}
	for i, a := range l {
		for k, b := range l {
			want := 0
			if i < k {
				want = -1
			} else if i > k {
				want = 1
			}
			if got := inbox.Compare(a, b); got != want {
				t.Errorf("Compare(%v, %v) is %d, want %d", a, b, got, want)
			}
		}
	}
}

func TestCompareOfRandomEvents(t *testing.T) {
	r := rand.New(rand.NewSource(81))
	for range 20000 {
		var a, b api.Event
		for i := range 7 {
			a, b = with(a, i, r.Intn(3)-1), with(b, i, r.Intn(3)-1)
			if r.Intn(3) > 0 {
				b = with(b, i, *numbers(&a)[i])
			}
		}
		if got := inbox.Compare(a, b); got != order(a, b) || got != -inbox.Compare(b, a) {
			t.Fatalf("Compare(%v, %v) is %d, want %d", a, b, got, order(a, b))
		}
	}
}

func TestMergeExamples(t *testing.T) {
	a, b, c := stamped(5, 7, 480, api.EventIn), stamped(5, 7, 481, api.EventIn), cancel(key(0, 9), 7, key(1, 5))
	all := []api.Event{c, a, b}
	merge(t, nil, nil, nil, api.OK)
	merge(t, []api.Event{}, nil, nil, api.OK)
	merge(t, nil, []api.Event{}, nil, api.OK)
	merge(t, []api.Event{a}, nil, []api.Event{a}, api.OK)
	merge(t, []api.Event{}, []api.Event{a}, []api.Event{a}, api.OK)
	merge(t, []api.Event{a, a, a}, nil, []api.Event{a}, api.OK)
	merge(t, []api.Event{a}, []api.Event{a}, []api.Event{a}, api.OK)
	merge(t, []api.Event{a, a}, []api.Event{a, a}, []api.Event{a}, api.OK)
	merge(t, []api.Event{b}, []api.Event{a}, []api.Event{a, b}, api.OK)
	merge(t, []api.Event{b, a, c}, nil, all, api.OK)
	merge(t, nil, []api.Event{b, a, c}, all, api.OK)
	merge(t, []api.Event{b, c, b}, []api.Event{c, a, b}, all, api.OK)
	merge(t, []api.Event{a, b}, []api.Event{c}, all, api.OK)
	merge(t, all, all, all, api.OK)
}

// Events that differ in one number only are different.
func TestMergeOfSimilarEvents(t *testing.T) {
	e := correct(key(5, 5), 5, 5, key(5, 5))
	for field := range 7 {
		n := 6
		for _, l := range [][]api.Event{{e, with(e, field, n)}, {with(e, field, n), e}, {e, with(e, field, n), e}} {
			want := []api.Event{e, with(e, field, n)}
			if field == 4 { // the kind: 6 is that of e
				l[0], l[1] = with(l[0], 4, 5), with(l[1], 4, 6)
				want[0] = with(e, 4, 5)
			}
			for i := range len(l) + 1 {
				merge(t, l[:i], l[i:], want, api.OK)
			}
		}
	}
	for kind := 1; kind <= 4; kind++ {
		for other := kind + 1; other <= 4; other++ {
			a, b := stamped(1, 1, 1, kind), stamped(1, 1, 1, other)
			merge(t, []api.Event{b}, []api.Event{a}, []api.Event{a, b}, api.OK)
			merge(t, []api.Event{b, a, b}, []api.Event{a}, []api.Event{a, b}, api.OK)
		}
	}
	l := union(extremes(), nil)
	if len(l) != len(extremes()) {
		t.Fatalf("there are %d events with extreme numbers", len(l))
	}
	merge(t, extremes(), nil, l, api.OK)
	merge(t, extremes()[5:], extremes()[:9], l, api.OK)
}

// In which order, in which parts and how often events arrive does not matter.
func TestMergeOfRandomSets(t *testing.T) {
	r := rand.New(rand.NewSource(82))
	for range 3000 {
		a, b := some(r, r.Intn(12), 6, 2, 3), some(r, r.Intn(12), 6, 2, 3)
		want := union(a, b)
		for _, p := range [][2][]api.Event{{a, b}, {b, a}, {want, nil}, {nil, want}, {want, b}, {a, want}, {want, want}, {shuffled(r, a), shuffled(r, b)}} {
			merge(t, p[0], p[1], want, api.OK)
		}
		c := some(r, r.Intn(12), 6, 2, 3)
		bc, _ := inbox.Merge(b, c)
		ab, _ := inbox.Merge(a, b)
		all := union(want, c)
		merge(t, a, bc, all, api.OK)
		merge(t, ab, c, all, api.OK)
		if t.Failed() {
			return
		}
	}
}

func TestMergeOfManyParts(t *testing.T) {
	r := rand.New(rand.NewSource(83))
	for range 100 {
		all := some(r, 200, 60, 3, 20)
		var got []api.Event
		for left := shuffled(r, all); len(left) > 0; {
			n := min(len(left), 1+r.Intn(20))
			part := append(slices.Clone(left[:n]), all[r.Intn(len(all))])
			if left = left[n:]; r.Intn(2) == 0 {
				part, got = got, part
			}
			got, _ = inbox.Merge(got, part)
		}
		if !slices.Equal(got, union(all, nil)) {
			t.Fatalf("the parts of %v are %v", all, got)
		}
	}
}

func TestMergeLimit(t *testing.T) {
	most, half := full(api.MaxList), api.MaxList/2
	one := []api.Event{stamped(api.MaxList, 1, 1, 1)}
	same := slices.Repeat(most[:1], api.MaxList)
	for _, p := range [][2][]api.Event{
		{most, nil}, {nil, most}, {most, most}, {most[:half], most[half:]}, {most[half:], most[:half]}, {most, most[5:6]},
		{most[:half+1], most[half:]}, {most[1:], most[:1]}, {same, most[1:]}, {most, same},
	} {
		merge(t, p[0], p[1], most, api.OK)
	}
	merge(t, same, same, most[:1], api.OK)
	merge(t, most[1:], one, append(slices.Clone(most[1:]), one...), api.OK)
	// Events in conflict are elements of the union, too.
	again := with(most[3], 3, api.MaxTime)
	for _, p := range [][2][]api.Event{
		{most, one}, {one, most}, {most[:half], append(slices.Clone(most[half:]), one...)}, {most, []api.Event{again}},
		{[]api.Event{again}, most}, {most, append(full(api.MaxList-1), one...)}, {same, append(slices.Clone(most[1:]), one...)},
		{most, []api.Event{cancel(key(0, 1), 1, key(1, 2))}}, {full(api.MaxList - 1), append(one, again)},
	} {
		merge(t, p[0], p[1], nil, api.ErrLimit)
	}
}

func TestMergeErrorsInOrder(t *testing.T) {
	long, far, bad, most := full(api.MaxList+1), full(2*api.MaxList), []api.Event{{}}, full(api.MaxList)
	same := slices.Repeat(long[:1], api.MaxList+1)
	odd := slices.Clone(most)
	odd[api.MaxList-1].Kind = 0
	for _, row := range []struct {
		a, b []api.Event
		want api.Errno
	}{
		{long, nil, api.ErrLimit}, {far, long, api.ErrLimit}, {same, nil, api.ErrLimit}, {same, most[:1], api.ErrLimit}, {same, same, api.ErrLimit},
		{make([]api.Event, api.MaxList+1), nil, api.ErrLimit}, {make([]api.Event, api.MaxList), nil, api.ErrInvalid},
		{long, bad, api.ErrLimit}, {long, odd, api.ErrLimit}, {append(odd, api.Event{}), bad, api.ErrLimit},
		{bad, nil, api.ErrInvalid}, {odd, nil, api.ErrInvalid}, {odd, odd, api.ErrInvalid}, {odd, bad, api.ErrInvalid},
		{bad, most, api.ErrInvalid}, {odd, long[api.MaxList:], api.ErrInvalid}, {append(most[:5:5], bad...), most[4:], api.ErrInvalid},
		{most, long[api.MaxList:], api.ErrLimit},
	} {
		merge(t, row.a, row.b, nil, row.want)
		merge(t, row.b, row.a, nil, row.want)
	}
}

func TestMergeOfInvalidEvents(t *testing.T) {
	good, most := full(5), full(api.MaxList)
	for _, e := range wrong() {
		merge(t, []api.Event{e}, nil, nil, api.ErrInvalid)
		merge(t, nil, []api.Event{e}, nil, api.ErrInvalid)
		merge(t, []api.Event{e}, []api.Event{e}, nil, api.ErrInvalid)
		for i := range 6 {
			l := slices.Insert(slices.Clone(good), i, e)
			merge(t, l, good, nil, api.ErrInvalid)
			merge(t, good, l, nil, api.ErrInvalid)
		}
		merge(t, most, []api.Event{e}, nil, api.ErrInvalid)
		merge(t, []api.Event{e}, most, nil, api.ErrInvalid)
	}
}

// P8.2

func TestConflictsExamples(t *testing.T) {
	a, b := stamped(5, 7, 480, 1), stamped(6, 7, 480, 1)
	conflict(t, nil)
	conflict(t, []api.Event{})
	conflict(t, []api.Event{a})
	conflict(t, []api.Event{a, a, a})
	conflict(t, []api.Event{a, b, a, b})
	conflict(t, []api.Event{a, with(a, 3, 481)}, key(1, 5))
	conflict(t, []api.Event{a, with(a, 3, 481), with(a, 3, 482), a, with(a, 3, 481)}, key(1, 5))
	conflict(t, []api.Event{b, with(a, 3, 481), a, with(b, 0, 0), with(b, 3, 1)}, key(1, 5), key(1, 6))
	conflict(t, []api.Event{with(a, 3, 1), with(b, 0, 2), with(with(b, 0, 0), 3, 9), a, b, with(with(b, 0, 2), 2, 8), with(b, 0, 0)}, key(0, 6), key(1, 5), key(2, 6))
	// Keys of targets, and of one number only, are no conflicts.
	conflict(t, []api.Event{a, cancel(key(1, 6), 7, a.Key), correct(key(1, 7), 7, 1, a.Key), cancel(key(1, 8), 8, a.Key), with(a, 0, 2)})
}

// Events with one key are different if any other number differs.
func TestConflictsOfSimilarEvents(t *testing.T) {
	e := cancel(key(3, 4), 5, key(1, 2))
	for field, n := range []int{8, 8, 8, 8, api.EventCorrect, 8, 8} {
		d := with(e, field, n)
		if field < 2 {
			conflict(t, []api.Event{e, d})
		} else {
			conflict(t, []api.Event{e, d}, e.Key)
			conflict(t, []api.Event{e, d, d, e}, e.Key)
		}
	}
	for kind := 1; kind <= 6; kind++ {
		for other := 1; other <= 6; other++ {
			a, b := api.Event{Employee: 1, Kind: kind}, api.Event{Employee: 1, Kind: other}
			if kind == other {
				conflict(t, []api.Event{a, b})
			} else {
				conflict(t, []api.Event{a, b}, key(0, 0))
			}
		}
	}
	conflict(t, extremes(), key(0, 0), key(65535, api.Sequences))
}

func TestConflictsOfManyEvents(t *testing.T) {
	conflict(t, full(api.MaxList))
	conflict(t, slices.Repeat(full(1), api.MaxList))
	half := full(api.MaxList / 2)
	conflict(t, slices.Concat(half, half))
	other := slices.Clone(half)
	var want []api.Key
	for i := range other {
		other[i].Time += 1000
		want = append(want, other[i].Key)
	}
	conflict(t, slices.Concat(half, other), want...)
	for i := range half {
		other[i] = with(half[0], 3, 1000+i)
	}
	conflict(t, slices.Concat(half, other), half[0].Key)
}

// The chapter's examples.
func TestEffectiveExamples(t *testing.T) {
	in := stamped(5, 7, 480, api.EventIn)
	expect(t, []api.Event{in, correct(key(1, 6), 7, 470, in.Key), correct(key(1, 7), 7, 475, in.Key)}, stamp(475, api.EventIn, 5))
	expect(t, []api.Event{in, cancel(key(1, 6), 8, in.Key)}, stamp(480, api.EventIn, 5))
	l := []api.Event{in, with(in, 3, 481)}
	expect(t, l, stamp(480, api.EventIn, 5))
	conflict(t, l, key(1, 5))
}

func TestEffectiveKinds(t *testing.T) {
	expect(t, nil)
	expect(t, []api.Event{})
	for kind := 1; kind <= 4; kind++ {
		e := stamped(5, 7, 480, kind)
		expect(t, []api.Event{e}, stamp(480, kind, 5))
		expect(t, []api.Event{e, e, e}, stamp(480, kind, 5))
		expect(t, []api.Event{e, correct(key(1, 6), 7, 470, e.Key)}, stamp(470, kind, 5))
		expect(t, []api.Event{e, cancel(key(1, 6), 7, e.Key)})
	}
	expect(t, []api.Event{cancel(key(1, 5), 7, key(1, 6))})
	expect(t, []api.Event{correct(key(1, 5), 7, 480, key(1, 6))})
	expect(t, []api.Event{cancel(key(1, 5), 7, key(1, 5)), correct(key(1, 6), 7, 480, key(1, 6))})
	expect(t, []api.Event{stamped(1, 7, 480, api.EventIn), stamped(2, 7, 720, api.EventPause), stamped(3, 7, 750, api.EventResume), stamped(4, 7, 1020, api.EventOut)},
		stamp(480, api.EventIn, 1), stamp(720, api.EventPause, 2), stamp(750, api.EventResume, 3), stamp(1020, api.EventOut, 4))
}

// The zero key is the key of an event, too, and stamp events, which have it as
// their Target, neither cancel nor correct it.
func TestEffectiveZeroKey(t *testing.T) {
	zero := api.Event{Employee: 7, Time: 480, Kind: api.EventIn}
	for kind := 1; kind <= 4; kind++ {
		expect(t, []api.Event{zero, stamped(5, 7, 490, kind)}, api.Stamp{Time: 480, Kind: api.EventIn}, stamp(490, kind, 5))
	}
	expect(t, []api.Event{zero, cancel(key(1, 5), 7, key(0, 0))})
	expect(t, []api.Event{zero, correct(key(1, 5), 7, 3, key(0, 0))}, api.Stamp{Time: 3, Kind: api.EventIn})
}

func TestEffectiveOrder(t *testing.T) {
	at := func(terminal, seq, time int) api.Event {
		return api.Event{Key: key(terminal, seq), Employee: 7, Time: time, Kind: 1}
	}
	is := func(terminal, seq, time int) api.Stamp {
		return api.Stamp{Time: time, Kind: 1, Key: key(terminal, seq)}
	}
	expect(t, []api.Event{at(0, 1, 30), at(0, 2, 20), at(1, 0, 10)}, is(1, 0, 10), is(0, 2, 20), is(0, 1, 30))
	// Stamps with equal times are in the order of their keys, whatever their kinds.
	expect(t, []api.Event{at(2, 1, 5), at(1, 3, 5), at(1, 2, 5), at(0, 9, 5), at(3, 0, 4)}, is(3, 0, 4), is(0, 9, 5), is(1, 2, 5), is(1, 3, 5), is(2, 1, 5))
	expect(t, []api.Event{with(at(1, 2, 5), 4, 1), with(at(1, 1, 5), 4, 4)}, stamp(5, 4, 1), stamp(5, 1, 2))
	// The effective time counts, not the time of the event.
	expect(t, []api.Event{at(0, 1, 30), at(0, 2, 20), correct(key(0, 3), 7, 10, key(0, 1))}, is(0, 1, 10), is(0, 2, 20))
	expect(t, []api.Event{at(0, 1, 30), at(0, 2, 20), correct(key(0, 3), 7, 20, key(0, 1))}, is(0, 1, 20), is(0, 2, 20))
	expect(t, []api.Event{at(0, 1, 10), at(0, 2, 20), correct(key(0, 3), 7, 20, key(0, 1)), correct(key(0, 4), 7, 10, key(0, 2))}, is(0, 2, 10), is(0, 1, 20))
	expect(t, []api.Event{at(0, 1, 0), at(65535, api.Sequences, api.MaxTime), at(0, 2, api.MaxTime), at(65535, 0, 0)},
		is(0, 1, 0), is(65535, 0, 0), is(0, 2, api.MaxTime), is(65535, api.Sequences, api.MaxTime))
}

// The correction with the greatest key counts, whatever the times are, and
// wherever the key is from that of the event.
func TestEffectiveCorrections(t *testing.T) {
	in := stamped(5, 7, 480, api.EventIn)
	to := func(terminal, seq, time int) api.Event { return correct(key(terminal, seq), 7, time, in.Key) }
	expect(t, []api.Event{in, to(1, 7, 475), to(1, 8, 470)}, stamp(470, 1, 5))
	expect(t, []api.Event{in, to(1, 8, 475), to(1, 7, 470), to(1, 6, 500)}, stamp(475, 1, 5))
	expect(t, []api.Event{in, to(2, 1, 475), to(1, 9, 470)}, stamp(475, 1, 5))
	expect(t, []api.Event{in, to(0, 9, 475), to(1, 4, 470)}, stamp(470, 1, 5))
	expect(t, []api.Event{in, to(0, 9, 475), to(0, 8, 470)}, stamp(475, 1, 5))
	expect(t, []api.Event{in, to(0, 0, 475)}, stamp(475, 1, 5))
	expect(t, []api.Event{in, to(65535, api.Sequences, 0), to(65535, 0, 470), to(65534, api.Sequences, 900)}, stamp(0, 1, 5))
	expect(t, []api.Event{in, to(1, 6, 480)}, stamp(480, 1, 5))
	expect(t, []api.Event{in, to(1, 6, 470), to(1, 7, 480)}, stamp(480, 1, 5))
	expect(t, []api.Event{in, to(1, 6, api.MaxTime)}, stamp(api.MaxTime, 1, 5))
	// A correction concerns its own target only.
	out := stamped(6, 7, 900, api.EventOut)
	expect(t, []api.Event{in, out, to(1, 8, 470), correct(key(1, 9), 7, 910, out.Key)}, stamp(470, 1, 5), stamp(910, 2, 6))
	expect(t, []api.Event{in, out, correct(key(1, 9), 7, 910, key(2, 5)), correct(key(1, 8), 7, 920, key(0, 6))}, stamp(480, 1, 5), stamp(900, 2, 6))
}

func TestEffectiveCancellations(t *testing.T) {
	in, out := stamped(5, 7, 480, api.EventIn), stamped(6, 7, 900, api.EventOut)
	expect(t, []api.Event{in, out, cancel(key(1, 8), 7, in.Key)}, stamp(900, 2, 6))
	expect(t, []api.Event{in, out, cancel(key(1, 8), 7, out.Key)}, stamp(480, 1, 5))
	expect(t, []api.Event{in, out, cancel(key(0, 0), 7, out.Key)}, stamp(480, 1, 5))
	expect(t, []api.Event{in, out, cancel(key(1, 8), 7, out.Key), cancel(key(0, 1), 7, in.Key)})
	expect(t, []api.Event{in, out, cancel(key(1, 8), 7, in.Key), cancel(key(0, 1), 7, in.Key), cancel(key(2, 1), 7, in.Key)}, stamp(900, 2, 6))
	// It does not matter when the event is cancelled: the time has no meaning.
	expect(t, []api.Event{in, with(cancel(key(1, 8), 7, in.Key), 3, api.MaxTime), out}, stamp(900, 2, 6))
	// Events that are not in the list.
	for _, k := range []api.Key{key(1, 4), key(1, 7), key(0, 5), key(2, 5), key(0, 0), key(65535, api.Sequences), key(5, 1)} {
		expect(t, []api.Event{in, out, cancel(key(1, 8), 7, k), correct(key(1, 9), 7, 1, k)}, stamp(480, 1, 5), stamp(900, 2, 6))
	}
}

// An event that is cancelled has no stamp, whether it is corrected as well.
func TestEffectiveCancelledAndCorrected(t *testing.T) {
	in := stamped(5, 7, 480, api.EventIn)
	for _, k := range []api.Key{key(0, 1), key(1, 6), key(1, 8), key(2, 0)} {
		expect(t, []api.Event{in, correct(key(1, 7), 7, 470, in.Key), cancel(k, 7, in.Key)})
		expect(t, []api.Event{in, correct(key(0, 7), 7, 470, in.Key), cancel(k, 7, in.Key), correct(key(3, 3), 7, 460, in.Key)})
	}
}

// Cancellations and corrections have an effect on events of their employee only.
func TestEffectiveOfOthers(t *testing.T) {
	in := stamped(5, 7, 480, api.EventIn)
	for _, other := range []int{1, 6, 8, api.Sequences} {
		expect(t, []api.Event{in, cancel(key(1, 8), other, in.Key)}, stamp(480, 1, 5))
		expect(t, []api.Event{in, correct(key(1, 8), other, 470, in.Key)}, stamp(480, 1, 5))
		expect(t, []api.Event{in, correct(key(1, 8), other, 470, in.Key), correct(key(1, 7), 7, 460, in.Key)}, stamp(460, 1, 5))
		expect(t, []api.Event{in, cancel(key(1, 8), other, in.Key), correct(key(1, 7), 7, 460, in.Key)}, stamp(460, 1, 5))
		// The events of the others stay as they are, and are theirs.
		theirs := stamped(6, other, 500, api.EventIn)
		l := []api.Event{in, theirs, cancel(key(1, 8), 7, theirs.Key), correct(key(1, 9), 7, 1, theirs.Key)}
		expect(t, l, stamp(480, 1, 5))
		if got, err := inbox.Effective(l, other); !slices.Equal(got, []api.Stamp{stamp(500, 1, 6)}) || err != api.OK {
			t.Errorf("Effective(%v, %d) is %v, %v", l, other, got, err)
		}
	}
}

// Cancellations and corrections can neither be cancelled nor corrected.
func TestEffectiveTargetsWithoutStamps(t *testing.T) {
	in := stamped(5, 7, 480, api.EventIn)
	away, moved := cancel(key(1, 6), 7, in.Key), correct(key(1, 6), 7, 470, in.Key)
	for _, k := range []api.Key{key(0, 1), key(1, 7), key(2, 0)} {
		expect(t, []api.Event{in, away, cancel(k, 7, away.Key)})
		expect(t, []api.Event{in, away, correct(k, 7, 460, away.Key)})
		expect(t, []api.Event{in, moved, cancel(k, 7, moved.Key)}, stamp(470, 1, 5))
		expect(t, []api.Event{in, moved, correct(k, 7, 460, moved.Key)}, stamp(470, 1, 5))
		expect(t, []api.Event{in, cancel(k, 7, k)}, stamp(480, 1, 5))
		expect(t, []api.Event{in, correct(k, 7, 460, k)}, stamp(480, 1, 5))
	}
	other := correct(key(1, 7), 7, 465, in.Key)
	expect(t, []api.Event{in, moved, other, cancel(key(1, 8), 7, other.Key)}, stamp(465, 1, 5))
}

// Of several different events with one key only the least one has an effect.
func TestEffectiveOfConflicts(t *testing.T) {
	in := stamped(5, 7, 480, api.EventIn)
	expect(t, []api.Event{in, with(in, 3, 481), with(in, 3, 482)}, stamp(480, 1, 5))
	expect(t, []api.Event{in, with(in, 3, 0)}, stamp(0, 1, 5))
	expect(t, []api.Event{in, with(in, 4, api.EventOut)}, stamp(480, 1, 5))
	expect(t, []api.Event{in, with(with(in, 4, api.EventOut), 3, 479)}, stamp(479, 2, 5))
	// The employee comes before the time: the event of another one can be the
	// one that counts, and then this one has none.
	expect(t, []api.Event{in, with(in, 2, 8)}, stamp(480, 1, 5))
	expect(t, []api.Event{in, with(with(in, 2, 8), 3, 0)}, stamp(480, 1, 5))
	expect(t, []api.Event{in, with(in, 2, 6)})
	expect(t, []api.Event{in, with(with(in, 2, 6), 3, api.MaxTime)})
	// The kinds of stamp events are less, at one time.
	expect(t, []api.Event{in, correct(in.Key, 7, 480, key(1, 1)), with(cancel(in.Key, 7, key(1, 1)), 3, 480)}, stamp(480, 1, 5))
	expect(t, []api.Event{in, correct(in.Key, 7, 479, key(1, 1))})
	expect(t, []api.Event{in, cancel(in.Key, 7, key(1, 1))})
	expect(t, []api.Event{in, correct(in.Key, 6, 480, in.Key)})
	// An event that does not count is neither cancelled nor corrected, and the one
	// that counts is, as both have the same key.
	l := []api.Event{in, with(in, 3, 481)}
	expect(t, append(l[:2:2], cancel(key(1, 6), 7, in.Key)))
	expect(t, append(l[:2:2], correct(key(1, 6), 7, 470, in.Key)), stamp(470, 1, 5))
	expect(t, []api.Event{in, with(in, 2, 6), correct(key(1, 6), 7, 470, in.Key), cancel(key(1, 7), 7, in.Key)})
}

// Cancellations and corrections that do not count have no effect.
func TestEffectiveOfChangesInConflict(t *testing.T) {
	in, k := stamped(5, 7, 480, api.EventIn), key(1, 6)
	away, moved := with(cancel(k, 7, in.Key), 3, 300), correct(k, 7, 470, in.Key)
	expect(t, []api.Event{in, away, stamped(6, 7, 299, api.EventOut)}, stamp(299, 2, 6), stamp(480, 1, 5))
	expect(t, []api.Event{in, away, stamped(6, 7, 300, api.EventOut)}, stamp(300, 2, 6), stamp(480, 1, 5))
	expect(t, []api.Event{in, away, stamped(6, 7, 301, api.EventOut)})
	expect(t, []api.Event{in, away, stamped(6, 6, 900, api.EventOut)}, stamp(480, 1, 5))
	expect(t, []api.Event{in, away, stamped(6, 8, 0, api.EventOut)})
	expect(t, []api.Event{in, away, with(away, 2, 6)}, stamp(480, 1, 5))
	expect(t, []api.Event{in, away, with(away, 5, 0)}, stamp(480, 1, 5))
	expect(t, []api.Event{in, away, with(away, 6, 4)}, stamp(480, 1, 5))
	expect(t, []api.Event{in, away, with(away, 6, 6)})
	expect(t, []api.Event{in, away, moved})
	expect(t, []api.Event{in, away, with(moved, 3, 300)})
	expect(t, []api.Event{in, away, with(moved, 3, 299)}, stamp(299, 1, 5))
	expect(t, []api.Event{in, moved, with(moved, 3, 471)}, stamp(470, 1, 5))
	expect(t, []api.Event{in, moved, with(moved, 2, 6)}, stamp(480, 1, 5))
	expect(t, []api.Event{in, moved, with(moved, 2, 8)}, stamp(470, 1, 5))
	expect(t, []api.Event{in, moved, with(moved, 6, 4)}, stamp(480, 1, 5))
	expect(t, []api.Event{in, moved, stamped(6, 7, 470, api.EventOut)}, stamp(470, 2, 6), stamp(480, 1, 5))
	// Another correction is the greatest one that counts.
	expect(t, []api.Event{in, moved, with(moved, 2, 6), correct(key(1, 4), 7, 100, in.Key)}, stamp(100, 1, 5))
}

// An employee is any integer.
func TestEffectiveEmployees(t *testing.T) {
	for _, l := range [][]api.Event{nil, {stamped(5, 7, 480, api.EventIn)}, full(api.MaxList), extremes()} {
		for _, employee := range []int{math.MinInt, -1, 0, 4, 6, 8, api.Sequences - 1, api.Sequences + 1, math.MaxInt} {
			if got, err := inbox.Effective(l, employee); len(got) != 0 || err != api.OK {
				t.Errorf("Effective(%v, %d) is %v, %v", short(l), employee, got, err)
			}
		}
	}
	for _, employee := range []int{1, 2, api.Sequences} {
		l := []api.Event{stamped(4, 3, 1, 1), stamped(5, employee, 480, 2), stamped(6, 4, 2, 3)}
		if got, err := inbox.Effective(l, employee); !slices.Equal(got, []api.Stamp{stamp(480, 2, 5)}) || err != api.OK {
			t.Errorf("Effective(%v, %d) is %v, %v", l, employee, got, err)
		}
	}
}

func TestConflictsAndEffectiveOfRandomLists(t *testing.T) {
	r := rand.New(rand.NewSource(84))
	found, differ := 0, 0
	for range 6000 {
		l := some(r, r.Intn(20), 3+r.Intn(25), 1+r.Intn(3), 1+r.Intn(6))
		set, _ := inbox.Merge(l, nil)
		for _, m := range [][]api.Event{l, shuffled(r, l), shuffled(r, l), set} {
			keys := conflicts(l)
			if got, err := inbox.Conflicts(m); !slices.Equal(got, keys) || err != api.OK {
				t.Fatalf("Conflicts(%v) is %v, %v, want %v", m, got, err, keys)
			}
			differ += len(keys)
			for employee := range 5 {
				want := effective(l, employee)
				if got, err := inbox.Effective(m, employee); !slices.Equal(got, want) || err != api.OK {
					t.Fatalf("Effective(%v, %d) is %v, %v, want %v", m, employee, got, err, want)
				}
				found += len(want)
			}
		}
	}
	if found < 40000 || differ < 40000 {
		t.Errorf("the random lists have only %d stamps and %d conflicts", found, differ)
	}
}

func TestEffectiveOfManyEvents(t *testing.T) {
	l := full(api.MaxList)
	check := func(want []api.Stamp) {
		t.Helper()
		if got, err := inbox.Effective(l, 7); !slices.Equal(got, want) || err != api.OK {
			t.Errorf("%d events like %v have %d stamps like %v, %v", len(l), short(l), len(got), got[:min(len(got), 4)], err)
		}
	}
	var want []api.Stamp
	for i := range l {
		l[i].Employee = 7
		want = append(want, stamp(l[i].Time, l[i].Kind, i))
	}
	slices.Reverse(want)
	check(want)
	// Only a few different times.
	want = nil
	for time := range 3 {
		for i := time; i < len(l); i += 3 {
			l[i].Time = time
			want = append(want, stamp(time, l[i].Kind, i))
		}
	}
	check(want)
	r := rand.New(rand.NewSource(86))
	r.Shuffle(len(l), func(i, k int) { l[i], l[k] = l[k], l[i] })
	check(want)
	// One stamp, and corrections of it.
	l[0] = stamped(5, 7, 480, api.EventOut)
	for i := range l[1:] {
		l[i+1] = correct(key(2, i), 7, 10+i, l[0].Key)
	}
	check([]api.Stamp{stamp(10+len(l)-2, api.EventOut, 5)})
	l = slices.Repeat(l[:1], api.MaxList)
	check([]api.Stamp{stamp(480, api.EventOut, 5)})
}

func TestConflictsAndEffectiveErrors(t *testing.T) {
	check := func(l []api.Event, want api.Errno) {
		t.Helper()
		for _, employee := range []int{math.MinInt, 0, 1, 2, 7} {
			if got, err := inbox.Effective(l, employee); len(got) != 0 || err != want {
				t.Errorf("Effective(%v, %d) is %v, %v, want %v", short(l), employee, got, err, want)
			}
		}
		if got, err := inbox.Conflicts(l); len(got) != 0 || err != want {
			t.Errorf("Conflicts(%v) is %v, %v, want %v", short(l), got, err, want)
		}
	}
	clash := []api.Event{stamped(5, 7, 480, 1), stamped(5, 7, 481, 1)}
	for _, e := range wrong() {
		check([]api.Event{e}, api.ErrInvalid)
		for i := range 3 {
			check(slices.Insert(slices.Clone(clash), i, e), api.ErrInvalid)
		}
		most := full(api.MaxList)
		most[api.MaxList-1] = e
		check(most, api.ErrInvalid)
		check(append(most, e), api.ErrLimit)
	}
	check(full(api.MaxList+1), api.ErrLimit)
	check(full(3*api.MaxList), api.ErrLimit)
	check(slices.Repeat(clash[:1], api.MaxList+1), api.ErrLimit)
	check(make([]api.Event, api.MaxList), api.ErrInvalid)
	check(make([]api.Event, api.MaxList+1), api.ErrLimit)
}

// R2, R6

// Lists are parts of arrays with further events before and behind them, which
// stay as they are, too.
func TestArgumentsAndResultsAreApart(t *testing.T) {
	r := rand.New(rand.NewSource(85))
	for range 300 {
		whole := some(r, 40, 20, 2, 9)
		was := slices.Clone(whole)
		a, b := whole[2:14], whole[10:30]
		all, _ := inbox.Merge(a, b)
		again, _ := inbox.Merge(a, b)
		alone, _ := inbox.Merge(all, nil)
		keys, _ := inbox.Conflicts(b)
		keysAgain, _ := inbox.Conflicts(b)
		stamps, _ := inbox.Effective(b, 1)
		stampsAgain, _ := inbox.Effective(b, 1)
		if !slices.Equal(whole, was) {
			t.Fatalf("the events are %v, were %v", whole, was)
		}
		want := slices.Clone(all)
		clear(again[:cap(again)])
		clear(alone[:cap(alone)])
		clear(keysAgain[:cap(keysAgain)])
		clear(stampsAgain[:cap(stampsAgain)])
		clear(whole)
		if !slices.Equal(all, want) || !slices.Equal(all, union(was[2:14], was[10:30])) {
			t.Fatalf("the union is %v, was %v", all, want)
		}
		if !slices.Equal(keys, conflicts(was[10:30])) || !slices.Equal(stamps, effective(was[10:30], 1)) {
			t.Fatalf("the results are %v and %v", keys, stamps)
		}
	}
}
