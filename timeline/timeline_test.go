package timeline_test

import (
	"math"
	"math/rand"
	"slices"
	"testing"

	"payroll/api"
	"payroll/timeline"
)

// set is the change that from gets a value with the number known.
func set(from, known, value int) api.Change {
	return api.Change{From: from, Known: known, Value: value}
}

// unset is the change that deletes the statement for from with the number known.
func unset(from, known int) api.Change {
	return api.Change{From: from, Known: known, Delete: true}
}

// example are the changes of the chapter's examples.
func example() []api.Change {
	return []api.Change{set(10, 1, 5), set(20, 2, 7), set(10, 3, 6), unset(20, 4)}
}

// less is the order of changes.
func less(a, b api.Change) bool {
	if a.From != b.From {
		return a.From < b.From
	}
	if a.Known != b.Known {
		return a.Known < b.Known
	}
	if a.Delete != b.Delete {
		return b.Delete
	}
	return a.Value < b.Value
}

// counting is the change that counts for each day that has one, by the
// definition.
func counting(l []api.Change, known int) map[int]api.Change {
	m := map[int]api.Change{}
	for _, c := range l {
		if best, ok := m[c.From]; c.Known <= known && (!ok || less(best, c)) {
			m[c.From] = c
		}
	}
	return m
}

// day is what a day has: a value, or none.
type day struct {
	value int
	ok    bool
}

// days are the days 0 to last by the definition.
func days(l []api.Change, known, last int) []day {
	m := counting(l, known)
	var now day
	all := make([]day, last+1)
	for d := range all {
		if c, ok := m[d]; ok && !c.Delete {
			now = day{c.Value, true}
		}
		all[d] = now
	}
	return all
}

// parts are the ranges that Slices finds, day by day.
func parts(all []day, from, to int) []api.Slice {
	var l []api.Slice
	for d := from; d <= to; d++ {
		switch n := len(l); {
		case !all[d].ok:
		case n > 0 && l[n-1].To == d-1 && l[n-1].Value == all[d].value:
			l[n-1].To = d
		default:
			l = append(l, api.Slice{From: d, To: d, Value: all[d].value})
		}
	}
	return l
}

// differences are the ranges that Diff finds, day by day.
func differences(a, b []day, from, to int) []api.Range {
	var l []api.Range
	for d := from; d <= to; d++ {
		switch n := len(l); {
		case a[d] == b[d]:
		case n > 0 && l[n-1].To == d-1:
			l[n-1].To = d
		default:
			l = append(l, api.Range{From: d, To: d})
		}
	}
	return l
}

// some are n changes of few days, few numbers and few values.
func some(r *rand.Rand, n, days, numbers, values int) []api.Change {
	var l []api.Change
	for range n {
		c := set(r.Intn(days), r.Intn(numbers), r.Intn(values)-values/2)
		switch r.Intn(4) {
		case 0:
			c = unset(c.From, c.Known)
		case 1:
			if len(l) > 0 {
				c = l[r.Intn(len(l))]
			}
		}
		l = append(l, c)
	}
	return l
}

// shuffled are the elements of a list in another order, some of them repeated.
func shuffled(r *rand.Rand, l []api.Change) []api.Change {
	l = slices.Clone(l)
	for range r.Intn(3) {
		if len(l) > 0 && len(l) < api.MaxList {
			l = append(l, l[r.Intn(len(l))])
		}
	}
	r.Shuffle(len(l), func(i, j int) { l[i], l[j] = l[j], l[i] })
	return l
}

// full are n changes, each of a day of its own.
func full(n int) []api.Change {
	l := make([]api.Change, n)
	for i := range l {
		l[i] = set(i, 1, i)
	}
	return l
}

// extremes are changes at the limits.
func extremes() []api.Change {
	return []api.Change{
		{}, unset(0, 0), unset(api.MaxDay, api.Sequences),
		set(0, 0, api.MaxNum), set(0, 0, -api.MaxNum), set(0, api.Sequences, 0), set(api.MaxDay, 0, 0),
		set(api.MaxDay, api.Sequences, api.MaxNum), set(api.MaxDay, api.Sequences, -api.MaxNum),
	}
}

// wrong are changes that are not valid, with their errors.
func wrong() map[api.Change]api.Errno {
	m := map[api.Change]api.Errno{}
	for _, n := range []int{-1, -2, math.MinInt, math.MinInt + 1, math.MaxInt, math.MaxInt - 1, 1 << 62, -1 << 62} {
		for _, c := range []api.Change{{From: n}, {Known: n}, {From: n, Known: n, Value: n}} {
			m[c] = api.ErrRange
			c.Delete = true
			m[c] = api.ErrRange
		}
	}
	for _, n := range []int{api.MaxNum + 1, -api.MaxNum - 1, math.MinInt, math.MinInt + 1, math.MaxInt, math.MaxInt - 1} {
		m[set(0, 0, n)] = api.ErrRange
		m[api.Change{Value: n, Delete: true}] = api.ErrRange
	}
	for _, n := range []int{api.MaxDay + 1, api.MaxDay + 2, 1 << 32, 1 << 48} {
		m[set(n, 0, 0)] = api.ErrRange
		m[unset(n, 0)] = api.ErrRange
	}
	for _, n := range []int{api.Sequences + 1, api.Sequences + 2, 1 << 32, 1 << 48} {
		m[set(0, n, 0)] = api.ErrRange
		m[unset(0, n)] = api.ErrRange
	}
	for _, n := range []int{1, -1, 2, api.MaxNum, -api.MaxNum, 1 << 32} {
		m[api.Change{Value: n, Delete: true}] = api.ErrInvalid
		m[api.Change{From: api.MaxDay, Known: api.Sequences, Value: n, Delete: true}] = api.ErrInvalid
		m[api.Change{From: api.MaxDay + 1, Value: n, Delete: true}] = api.ErrRange
		m[api.Change{Known: -1, Value: n, Delete: true}] = api.ErrRange
	}
	return m
}

// outside are integers that are no day.
func outside() []int {
	return []int{-1, -2, api.MaxDay + 1, api.MaxDay + 2, 1 << 32, -1 << 32, math.MinInt, math.MinInt + 1, math.MaxInt, math.MaxInt - 1}
}

// refuse checks that all functions return an error for a list, and nothing else.
func refuse(t *testing.T, l []api.Change, want api.Errno) {
	t.Helper()
	if err := timeline.Valid(l); err != want {
		t.Errorf("Valid(%v) is %v, want %v", short(l), err, want)
	}
	if got, err := timeline.Merge(l, nil); len(got) != 0 || err != want {
		t.Errorf("Merge(%v, nil) is %v, %v, want %v", short(l), got, err, want)
	}
	if got, err := timeline.Merge(example(), l); len(got) != 0 || err != want {
		t.Errorf("Merge of the example and %v is %v, %v, want %v", short(l), got, err, want)
	}
	for _, d := range []int{0, api.MaxDay, -1, api.MaxDay + 1} {
		if got, ok, err := timeline.At(l, d, math.MaxInt); got != 0 || ok || err != want {
			t.Errorf("At(%v, %d) is %d, %v, %v, want %v", short(l), d, got, ok, err, want)
		}
		for _, e := range []int{0, api.MaxDay, -1, api.MaxDay + 1} {
			if got, err := timeline.Slices(l, math.MaxInt, d, e); len(got) != 0 || err != want {
				t.Errorf("Slices(%v, %d, %d) is %v, %v, want %v", short(l), d, e, got, err, want)
			}
			if got, err := timeline.Diff(l, 0, math.MaxInt, d, e); len(got) != 0 || err != want {
				t.Errorf("Diff(%v, %d, %d) is %v, %v, want %v", short(l), d, e, got, err, want)
			}
		}
	}
}

// short are the first changes of a list.
func short(l []api.Change) []api.Change { return l[:min(len(l), 4)] }

// P6.1

func TestValid(t *testing.T) {
	for _, l := range [][]api.Change{nil, {}, example(), extremes(), full(api.MaxList), make([]api.Change, api.MaxList)} {
		if err := timeline.Valid(l); err != api.OK {
			t.Errorf("Valid(%v) is %v", short(l), err)
		}
	}
	for c, want := range wrong() {
		refuse(t, []api.Change{c}, want)
		for i := range 5 {
			refuse(t, slices.Insert(example(), i, c), want)
		}
		most := full(api.MaxList)
		most[api.MaxList-1] = c
		if err := timeline.Valid(most); err != want {
			t.Errorf("Valid of a full list that ends with %v is %v, want %v", c, err, want)
		}
	}
}

// Repeated changes are changes of the list, too.
func TestValidLimit(t *testing.T) {
	for _, n := range []int{api.MaxList + 1, api.MaxList + 2, 2 * api.MaxList} {
		refuse(t, make([]api.Change, n), api.ErrLimit)
		refuse(t, full(n), api.ErrLimit)
		for _, c := range []api.Change{{From: -1}, {Value: 1, Delete: true}} {
			l := full(n)
			l[0], l[n-1] = c, c
			refuse(t, l, api.ErrLimit)
		}
	}
}

// All errors of a change come before those of the next one.
func TestValidOrder(t *testing.T) {
	for c, first := range wrong() {
		for _, d := range []api.Change{{From: -1}, {Known: -1}, {Value: api.MaxNum + 1}, {Value: 1, Delete: true}} {
			l := []api.Change{set(1, 1, 1), c, set(2, 2, 2), d}
			if err := timeline.Valid(l); err != first {
				t.Errorf("Valid(%v) is %v, want %v", l, err, first)
			}
		}
	}
}

// The list is in the order of changes: each two neighbours differ in one more
// field than those before, and the fields that count less are reversed.
func TestMergeOrder(t *testing.T) {
	want := []api.Change{
		set(0, 0, -api.MaxNum), set(0, 0, -1), {}, set(0, 0, 1), set(0, 0, api.MaxNum), unset(0, 0),
		set(0, 1, -9), set(0, 1, 9), unset(0, 1), set(0, 2, -5), unset(0, 2), set(0, api.Sequences, 4), unset(0, api.Sequences),
		set(1, 0, -api.MaxNum), set(1, 0, 7), unset(1, 0), set(1, 1, 0), unset(2, 0), set(2, 1, -3), set(9, 0, 1), set(10, 0, 0),
		set(api.MaxDay, 0, -8), set(api.MaxDay, 0, 2), unset(api.MaxDay, 0), set(api.MaxDay, api.Sequences, -1), unset(api.MaxDay, api.Sequences),
	}
	r := rand.New(rand.NewSource(61))
	for range 300 {
		l := shuffled(r, want)
		n := r.Intn(len(l) + 1)
		if got, err := timeline.Merge(l[:n], l[n:]); !slices.Equal(got, want) || err != api.OK {
			t.Fatalf("Merge(%v, %v) is %v, %v, want %v", l[:n], l[n:], got, err, want)
		}
	}
	for i, c := range want {
		for _, d := range want[i+1:] {
			for _, l := range [][]api.Change{{c, d}, {d, c}, {d, d, c, d, c}} {
				for n := range l {
					if got, err := timeline.Merge(l[:n], l[n:]); !slices.Equal(got, []api.Change{c, d}) || err != api.OK {
						t.Errorf("Merge(%v, %v) is %v, %v", l[:n], l[n:], got, err)
					}
				}
			}
		}
	}
}

func TestMergeExamples(t *testing.T) {
	all := []api.Change{set(10, 1, 5), set(10, 3, 6), set(20, 2, 7), unset(20, 4)}
	for _, row := range []struct{ a, b, want []api.Change }{
		{nil, nil, nil},
		{[]api.Change{}, nil, nil},
		{[]api.Change{{}}, nil, []api.Change{{}}},
		{nil, []api.Change{{}, {}, {}}, []api.Change{{}}},
		{[]api.Change{{}, {}}, []api.Change{{}}, []api.Change{{}}},
		{example(), nil, all},
		{nil, example(), all},
		{all, example(), all},
		{example()[:2], example()[1:], all},
		{example()[2:], example()[:3], all},
		{[]api.Change{unset(5, 5)}, []api.Change{set(5, 5, 0)}, []api.Change{set(5, 5, 0), unset(5, 5)}},
		{[]api.Change{set(5, 5, 1)}, []api.Change{set(5, 5, 0)}, []api.Change{set(5, 5, 0), set(5, 5, 1)}},
	} {
		if got, err := timeline.Merge(row.a, row.b); !slices.Equal(got, row.want) || err != api.OK {
			t.Errorf("Merge(%v, %v) is %v, %v, want %v", row.a, row.b, got, err, row.want)
		}
	}
}

func TestMergeOfRandomSets(t *testing.T) {
	r := rand.New(rand.NewSource(62))
	for range 3000 {
		a, b := some(r, r.Intn(12), 4, 3, 4), some(r, r.Intn(12), 4, 3, 4)
		var want []api.Change
		for _, c := range append(slices.Clone(a), b...) {
			i := 0
			for i < len(want) && less(want[i], c) {
				i++
			}
			if i == len(want) || want[i] != c {
				want = slices.Insert(want, i, c)
			}
		}
		for _, p := range [][2][]api.Change{{a, b}, {b, a}, {want, b}, {a, want}, {want, nil}, {shuffled(r, a), shuffled(r, b)}} {
			if got, err := timeline.Merge(p[0], p[1]); !slices.Equal(got, want) || err != api.OK {
				t.Fatalf("Merge(%v, %v) is %v, %v, want %v", p[0], p[1], got, err, want)
			}
		}
	}
}

func TestMergeLimit(t *testing.T) {
	most, half := full(api.MaxList), api.MaxList/2
	one := []api.Change{set(0, 1, 1)}
	for _, p := range [][2][]api.Change{
		{most, nil}, {most, most}, {most[:half], most[half:]}, {most[half:], most[:half]}, {most, most[5:6]},
		{most[:half+1], most[half:]}, {most[1:], most[:1]}, {most[1:], one}, {make([]api.Change, api.MaxList), most[1:]},
	} {
		got, err := timeline.Merge(p[0], p[1])
		if len(got) != api.MaxList || err != api.OK {
			t.Errorf("the union of %d and %d changes has %d, %v", len(p[0]), len(p[1]), len(got), err)
		}
		if !slices.IsSortedFunc(got, func(a, b api.Change) int { return a.From - b.From }) {
			t.Error("a full union is not sorted")
		}
	}
	for _, p := range [][2][]api.Change{
		{most, one}, {one, most}, {most, unsets(api.MaxList)}, {most[:half+1], unsets(half)}, {unsets(half), most[:half+1]},
		{make([]api.Change, api.MaxList), most}, {most, append(full(api.MaxList-1), one...)},
	} {
		if got, err := timeline.Merge(p[0], p[1]); len(got) != 0 || err != api.ErrLimit {
			t.Errorf("the union of %d and %d changes has %d, %v", len(p[0]), len(p[1]), len(got), err)
		}
	}
}

// unsets are n changes that delete, each of a day of its own.
func unsets(n int) []api.Change {
	l := make([]api.Change, n)
	for i := range l {
		l[i] = unset(i, 1)
	}
	return l
}

func TestMergeErrorsInOrder(t *testing.T) {
	long, far, odd := full(api.MaxList+1), []api.Change{{From: -1}}, []api.Change{{Value: 1, Delete: true}}
	most := full(api.MaxList)
	most[7].Known = -1
	for _, row := range []struct {
		a, b []api.Change
		want api.Errno
	}{
		{long, far, api.ErrLimit}, {long, odd, api.ErrLimit}, {far, long, api.ErrRange}, {far, odd, api.ErrRange},
		{odd, far, api.ErrInvalid}, {odd, long, api.ErrInvalid}, {full(api.MaxList), far, api.ErrRange}, {full(api.MaxList), odd, api.ErrInvalid},
		{far, full(api.MaxList), api.ErrRange}, {most, full(api.MaxList), api.ErrRange}, {full(api.MaxList), most, api.ErrRange},
		{nil, long, api.ErrLimit}, {nil, far, api.ErrRange}, {nil, odd, api.ErrInvalid},
	} {
		if got, err := timeline.Merge(row.a, row.b); len(got) != 0 || err != row.want {
			t.Errorf("Merge(%v, %v) is %v, %v, want %v", short(row.a), short(row.b), short(got), err, row.want)
		}
	}
}

// P6.2

func TestAtExamples(t *testing.T) {
	for _, row := range []struct {
		l          []api.Change
		day, known int
		want       day
	}{
		{example()[:3], 15, 2, day{5, true}}, {example()[:3], 15, 3, day{6, true}}, {example()[:3], 25, 2, day{7, true}}, {example()[:3], 25, 3, day{7, true}},
		{example(), 25, 4, day{6, true}}, {example(), 25, 3, day{7, true}}, {example(), 15, 4, day{6, true}},
		{example(), 25, 1, day{5, true}}, {example(), 25, 0, day{}}, {example(), 25, -1, day{}}, {example(), 25, math.MinInt, day{}},
		{example(), 25, 5, day{6, true}}, {example(), 25, math.MaxInt, day{6, true}}, {example(), 9, math.MaxInt, day{}}, {example(), 10, 4, day{6, true}},
		{example(), 19, 2, day{5, true}}, {example(), 20, 2, day{7, true}}, {example(), 0, 4, day{}}, {example(), api.MaxDay, 4, day{6, true}},
		{nil, 0, 0, day{}}, {[]api.Change{}, api.MaxDay, math.MaxInt, day{}},
		{[]api.Change{{}}, 0, 0, day{0, true}}, {[]api.Change{{}}, api.MaxDay, 0, day{0, true}}, {[]api.Change{{}}, 0, -1, day{}},
		{[]api.Change{unset(0, 0)}, 0, 0, day{}}, {[]api.Change{unset(3, 0)}, api.MaxDay, 5, day{}},
		{[]api.Change{set(api.MaxDay, 0, 4)}, api.MaxDay, 0, day{4, true}}, {[]api.Change{set(api.MaxDay, 0, 4)}, api.MaxDay - 1, 0, day{}},
		{[]api.Change{set(0, 0, 3), set(api.MaxDay, 0, 4)}, api.MaxDay - 1, 0, day{3, true}},
		{[]api.Change{set(0, api.Sequences, 3)}, 0, api.Sequences - 1, day{}}, {[]api.Change{set(0, api.Sequences, 3)}, 0, api.Sequences, day{3, true}},
		{[]api.Change{set(1, 0, api.MaxNum)}, 1, 0, day{api.MaxNum, true}}, {[]api.Change{set(1, 0, -api.MaxNum)}, 1, 0, day{-api.MaxNum, true}},
		// A later deletion withdraws whatever is said of the same day, and
		// nothing else; what is said after it counts again.
		{[]api.Change{set(5, 1, 3), unset(5, 2)}, 7, 2, day{}}, {[]api.Change{set(5, 1, 3), unset(5, 2)}, 7, 1, day{3, true}},
		{[]api.Change{set(5, 1, 3), unset(6, 2)}, 7, 2, day{3, true}}, {[]api.Change{set(5, 1, 3), unset(4, 2)}, 7, 2, day{3, true}},
		{[]api.Change{set(5, 1, 3), set(5, 2, 4), unset(5, 3)}, 7, 3, day{}}, {[]api.Change{set(5, 3, 3), unset(5, 2)}, 7, 3, day{3, true}},
		{[]api.Change{set(5, 1, 3), unset(5, 2), set(5, 3, 3)}, 7, 3, day{3, true}}, {[]api.Change{set(5, 1, 3), unset(5, 2), set(5, 3, 3)}, 7, 2, day{}},
		{[]api.Change{set(2, 0, 1), set(4, 0, 2), set(6, 0, 3), unset(6, 1), unset(4, 1)}, 9, 1, day{1, true}},
		{[]api.Change{set(2, 0, 1), set(4, 0, 2), set(6, 0, 3), unset(4, 1)}, 9, 1, day{3, true}}, {[]api.Change{set(2, 0, 1), set(4, 0, 2), set(6, 0, 3), unset(4, 1)}, 5, 1, day{1, true}},
		// A change that becomes known later replaces none with another day.
		{[]api.Change{set(4, 1, 8), set(2, 9, 1)}, 5, 9, day{8, true}}, {[]api.Change{set(4, 1, 8), set(2, 9, 1)}, 3, 9, day{1, true}},
		{[]api.Change{set(4, 9, 8), set(2, 1, 1)}, 5, 8, day{1, true}},
		// With one day and one number a deletion is the greatest, then the
		// greatest value.
		{[]api.Change{set(5, 1, 3), unset(5, 1)}, 7, 1, day{}}, {[]api.Change{set(5, 1, 3), set(5, 1, 4)}, 7, 1, day{4, true}},
		{[]api.Change{set(5, 1, -3), set(5, 1, -4)}, 7, 1, day{-3, true}}, {[]api.Change{set(5, 1, api.MaxNum), unset(5, 1), set(3, 1, -2)}, 7, 1, day{-2, true}},
		{[]api.Change{set(5, 1, 9), set(5, 2, 4)}, 7, 2, day{4, true}},
	} {
		for range 2 {
			if got, ok, err := timeline.At(row.l, row.day, row.known); (day{got, ok}) != row.want || err != api.OK {
				t.Errorf("At(%v, %d, %d) is %d, %v, %v, want %v", row.l, row.day, row.known, got, ok, err, row.want)
			}
			slices.Reverse(row.l)
		}
	}
}

func TestAtOfRandomLists(t *testing.T) {
	r := rand.New(rand.NewSource(63))
	for range 4000 {
		l := some(r, r.Intn(12), 8, 5, 5)
		again := shuffled(r, l)
		for _, known := range []int{-1, 0, 1, 2, 3, 4, 5, math.MaxInt} {
			for d, want := range days(l, known, 9) {
				for _, m := range [][]api.Change{l, again} {
					if got, ok, err := timeline.At(m, d, known); (day{got, ok}) != want || err != api.OK {
						t.Fatalf("At(%v, %d, %d) is %d, %v, %v, want %v", m, d, known, got, ok, err, want)
					}
				}
			}
		}
	}
}

// What becomes known later does not influence what was known.
func TestKnowledgeStays(t *testing.T) {
	r := rand.New(rand.NewSource(64))
	for range 2000 {
		l := some(r, 12, 8, 6, 5)
		known := r.Intn(6)
		var now []api.Change
		for _, c := range l {
			if c.Known <= known {
				now = append(now, c)
			}
		}
		for d := range 9 {
			v, was, _ := timeline.At(now, d, known)
			if got, ok, err := timeline.At(l, d, known); got != v || ok != was || err != api.OK {
				t.Fatalf("At(%v, %d, %d) is %d, %v, %v, and %d, %v without later changes", l, d, known, got, ok, err, v, was)
			}
		}
		a, _ := timeline.Slices(now, known, 0, 9)
		if b, err := timeline.Slices(l, known, 0, 9); !slices.Equal(a, b) || err != api.OK {
			t.Fatalf("Slices(%v, %d) is %v, %v, and %v without later changes", l, known, b, err, a)
		}
		if got, err := timeline.Diff(now, known, math.MaxInt, 0, 9); len(got) != 0 || err != api.OK {
			t.Fatalf("Diff(%v, %d) with what nobody says later is %v, %v", now, known, got, err)
		}
	}
}

func TestAtErrors(t *testing.T) {
	for _, d := range outside() {
		for _, l := range [][]api.Change{nil, example(), {{}}, full(api.MaxList)} {
			for _, known := range []int{math.MinInt, -1, 0, 4, math.MaxInt} {
				if got, ok, err := timeline.At(l, d, known); got != 0 || ok || err != api.ErrRange {
					t.Errorf("At(%v, %d, %d) is %d, %v, %v", short(l), d, known, got, ok, err)
				}
			}
		}
	}
}

// P6.3

func TestSlicesExamples(t *testing.T) {
	near := []api.Change{set(10, 1, 5), set(20, 1, 5), set(21, 1, 0), set(22, 1, 5), set(30, 2, 5)}
	for _, row := range []struct {
		l               []api.Change
		known, from, to int
		want            []api.Slice
	}{
		{example(), 3, 0, 30, []api.Slice{{From: 10, To: 19, Value: 6}, {From: 20, To: 30, Value: 7}}},
		{example(), 2, 0, 30, []api.Slice{{From: 10, To: 19, Value: 5}, {From: 20, To: 30, Value: 7}}},
		{example(), 4, 0, 30, []api.Slice{{From: 10, To: 30, Value: 6}}},
		{example(), 1, 0, api.MaxDay, []api.Slice{{From: 10, To: api.MaxDay, Value: 5}}},
		{example(), 0, 0, api.MaxDay, nil},
		{example(), -1, 0, api.MaxDay, nil},
		{example(), math.MinInt, 0, api.MaxDay, nil},
		{example(), math.MaxInt, 12, 12, []api.Slice{{From: 12, To: 12, Value: 6}}},
		{example(), 3, 19, 20, []api.Slice{{From: 19, To: 19, Value: 6}, {From: 20, To: 20, Value: 7}}},
		{example(), 3, 20, 20, []api.Slice{{From: 20, To: 20, Value: 7}}},
		{example(), 3, 19, 19, []api.Slice{{From: 19, To: 19, Value: 6}}},
		{example(), 3, 0, 9, nil},
		{example(), 3, 9, 10, []api.Slice{{From: 10, To: 10, Value: 6}}},
		{example(), 3, api.MaxDay, api.MaxDay, []api.Slice{{From: api.MaxDay, To: api.MaxDay, Value: 7}}},
		{nil, 0, 0, 0, nil},
		{nil, math.MaxInt, 0, api.MaxDay, nil},
		{[]api.Change{{}}, 0, 0, api.MaxDay, []api.Slice{{From: 0, To: api.MaxDay}}},
		{[]api.Change{{}}, 0, 0, 0, []api.Slice{{}}},
		{[]api.Change{unset(0, 0)}, 0, 0, api.MaxDay, nil},
		{[]api.Change{set(api.MaxDay, 0, 3)}, 0, 0, api.MaxDay, []api.Slice{{From: api.MaxDay, To: api.MaxDay, Value: 3}}},
		{[]api.Change{set(api.MaxDay, 0, 3)}, 0, 0, api.MaxDay - 1, nil},
		{[]api.Change{{}, set(1, 0, 1), set(2, 0, 2)}, 0, 0, 2, []api.Slice{{From: 0, To: 0}, {From: 1, To: 1, Value: 1}, {From: 2, To: 2, Value: 2}}},
		// Neighbouring ranges of one value are one range.
		{near, 1, 0, 40, []api.Slice{{From: 10, To: 20, Value: 5}, {From: 21, To: 21}, {From: 22, To: 40, Value: 5}}},
		{near, 2, 0, 40, []api.Slice{{From: 10, To: 20, Value: 5}, {From: 21, To: 21}, {From: 22, To: 40, Value: 5}}},
		{near, 2, 15, 25, []api.Slice{{From: 15, To: 20, Value: 5}, {From: 21, To: 21}, {From: 22, To: 25, Value: 5}}},
		{near[:2], 1, 20, 21, []api.Slice{{From: 20, To: 21, Value: 5}}},
		{[]api.Change{set(10, 1, 5), set(20, 1, 6), set(30, 1, 5), unset(20, 2)}, 2, 0, 40, []api.Slice{{From: 10, To: 40, Value: 5}}},
		{[]api.Change{set(10, 1, 5), set(20, 1, 6), set(30, 1, 5), set(20, 2, 5)}, 2, 0, 40, []api.Slice{{From: 10, To: 40, Value: 5}}},
		{[]api.Change{set(10, 1, 5), set(20, 1, 6), unset(10, 2)}, 2, 0, 40, []api.Slice{{From: 20, To: 40, Value: 6}}},
	} {
		for range 2 {
			if got, err := timeline.Slices(row.l, row.known, row.from, row.to); !slices.Equal(got, row.want) || err != api.OK {
				t.Errorf("Slices(%v, %d, %d, %d) is %v, %v, want %v", row.l, row.known, row.from, row.to, got, err, row.want)
			}
			slices.Reverse(row.l)
		}
	}
}

func TestDiffExamples(t *testing.T) {
	swap := []api.Change{set(0, 1, 1), set(10, 1, 2), set(20, 1, 1), set(0, 2, 2), set(10, 2, 1), set(20, 2, 1), set(25, 2, 2)}
	for _, row := range []struct {
		l              []api.Change
		a, b, from, to int
		want           []api.Range
	}{
		{example(), 2, 4, 0, 30, []api.Range{{From: 10, To: 30}}},
		{example(), 2, 3, 0, 30, []api.Range{{From: 10, To: 19}}},
		{example(), 3, 4, 0, 30, []api.Range{{From: 20, To: 30}}},
		{example(), 1, 2, 0, api.MaxDay, []api.Range{{From: 20, To: api.MaxDay}}},
		{example(), 0, 1, 0, 30, []api.Range{{From: 10, To: 30}}},
		{example(), -1, 0, 0, api.MaxDay, nil},
		{example(), 4, math.MaxInt, 0, api.MaxDay, nil},
		{example(), math.MinInt, math.MaxInt, 0, 30, []api.Range{{From: 10, To: 30}}},
		{example(), math.MinInt, math.MaxInt, 12, 12, []api.Range{{From: 12, To: 12}}},
		{example(), math.MinInt, math.MaxInt, 0, 9, nil},
		{example(), 2, 3, 19, 20, []api.Range{{From: 19, To: 19}}},
		{example(), 2, 3, 20, 20, nil},
		{example(), 2, 3, 19, 19, []api.Range{{From: 19, To: 19}}},
		{example(), 3, 4, 20, 20, []api.Range{{From: 20, To: 20}}},
		{example(), 3, 4, 19, 20, []api.Range{{From: 20, To: 20}}},
		{nil, 0, 1, 0, api.MaxDay, nil},
		// A value that is 0 differs from none.
		{[]api.Change{set(0, 1, 0)}, 0, 1, 0, api.MaxDay, []api.Range{{From: 0, To: api.MaxDay}}},
		{[]api.Change{set(5, 1, 0), unset(5, 2)}, 1, 2, 0, 9, []api.Range{{From: 5, To: 9}}},
		{[]api.Change{set(api.MaxDay, 1, 0)}, 0, 1, 0, api.MaxDay, []api.Range{{From: api.MaxDay, To: api.MaxDay}}},
		{[]api.Change{set(5, 1, 3), set(5, 2, 3), set(7, 2, 3)}, 1, 2, 0, api.MaxDay, nil},
		{[]api.Change{set(5, 1, 3), unset(5, 2), set(5, 3, 3)}, 1, 3, 0, api.MaxDay, nil},
		// Neighbouring ranges that differ are one range, whatever their values.
		{swap, 1, 2, 0, 30, []api.Range{{From: 0, To: 19}, {From: 25, To: 30}}},
		{swap, 1, 2, 5, 25, []api.Range{{From: 5, To: 19}, {From: 25, To: 25}}},
		{swap, 1, 2, 19, 24, []api.Range{{From: 19, To: 19}}},
		{swap, 1, 2, 20, 24, nil},
		{swap, 0, 2, 0, 30, []api.Range{{From: 0, To: 30}}},
	} {
		for range 2 {
			for _, known := range [][2]int{{row.a, row.b}, {row.b, row.a}} {
				if got, err := timeline.Diff(row.l, known[0], known[1], row.from, row.to); !slices.Equal(got, row.want) || err != api.OK {
					t.Errorf("Diff(%v, %v, %d, %d) is %v, %v, want %v", row.l, known, row.from, row.to, got, err, row.want)
				}
			}
			slices.Reverse(row.l)
		}
	}
}

// compareRanges checks Slices and Diff of a list with the definitions.
func compareRanges(t *testing.T, l []api.Change, a, b, from, to int) {
	t.Helper()
	before, after := days(l, a, to), days(l, b, to)
	if got, err := timeline.Slices(l, a, from, to); !slices.Equal(got, parts(before, from, to)) || err != api.OK {
		t.Fatalf("Slices(%v, %d, %d, %d) is %v, %v, want %v", l, a, from, to, got, err, parts(before, from, to))
	}
	if got, err := timeline.Diff(l, a, b, from, to); !slices.Equal(got, differences(before, after, from, to)) || err != api.OK {
		t.Fatalf("Diff(%v, %d, %d, %d, %d) is %v, %v, want %v", l, a, b, from, to, got, err, differences(before, after, from, to))
	}
}

func TestRangesOfRandomLists(t *testing.T) {
	r := rand.New(rand.NewSource(65))
	for range 30000 {
		l := some(r, r.Intn(16), 1+r.Intn(14), 1+r.Intn(6), 2+r.Intn(4))
		from := r.Intn(12)
		compareRanges(t, l, r.Intn(8)-1, r.Intn(8)-1, from, from+r.Intn(12))
	}
}

// Long lists, up to the last day, with many or few changes of each day.
func TestRangesOfLongLists(t *testing.T) {
	r := rand.New(rand.NewSource(66))
	for range 40 {
		span := 1 + r.Intn(3000)
		l := some(r, api.MaxList, span, 1+r.Intn(400), 2+r.Intn(5))
		for i := range l {
			l[i].From += api.MaxDay - span + 1
		}
		a, b := r.Intn(400)-1, r.Intn(400)-1
		compareRanges(t, l, a, b, 0, api.MaxDay)
		compareRanges(t, l, a, b, api.MaxDay-span/2, api.MaxDay)
		compareRanges(t, l, a, b, api.MaxDay-span/2, api.MaxDay-span/3)
	}
	for _, l := range [][]api.Change{full(api.MaxList), make([]api.Change, api.MaxList), unsets(api.MaxList), extremes()} {
		compareRanges(t, l, 1, 0, 0, api.MaxDay)
		compareRanges(t, l, api.Sequences, api.Sequences-1, 0, api.MaxDay)
	}
	got, err := timeline.Slices(full(api.MaxList), 1, 0, api.MaxDay)
	if len(got) != api.MaxList || err != api.OK {
		t.Errorf("the ranges of %d values are %d, %v", api.MaxList, len(got), err)
	}
}

func TestRangeErrors(t *testing.T) {
	refuse := func(l []api.Change, from, to int, want api.Errno) {
		for _, known := range []int{math.MinInt, -1, 0, 4, math.MaxInt} {
			if got, err := timeline.Slices(l, known, from, to); len(got) != 0 || err != want {
				t.Errorf("Slices(%v, %d, %d, %d) is %v, %v, want %v", short(l), known, from, to, got, err, want)
			}
			if got, err := timeline.Diff(l, known, 3, from, to); len(got) != 0 || err != want {
				t.Errorf("Diff(%v, %d, 3, %d, %d) is %v, %v, want %v", short(l), known, from, to, got, err, want)
			}
		}
	}
	for _, l := range [][]api.Change{nil, {{}}, example(), full(api.MaxList)} {
		for _, d := range outside() {
			for _, e := range append(outside(), 0, 15, api.MaxDay) {
				refuse(l, d, e, api.ErrRange)
				refuse(l, e, d, api.ErrRange)
			}
		}
		for _, d := range []int{1, 2, 10, 20, api.MaxDay} {
			for _, e := range []int{d - 1, d / 2, 0} {
				refuse(l, d, e, api.ErrInvalid)
			}
		}
	}
}

// R2

// wipe writes into all the memory behind a slice.
func wipe[T any](l []T) {
	l = l[:cap(l)]
	for i := range l {
		var zero T
		l[i] = zero
	}
}

func TestArgumentsAndResultsAreApart(t *testing.T) {
	long := append(example(), set(5, 5, 5), set(5, 5, 5), unset(1, 1))
	before := slices.Clone(long)
	a, b := long[:4], long[2:5]
	for range 2 {
		merged, err := timeline.Merge(a, b)
		if !slices.Equal(merged, []api.Change{set(5, 5, 5), set(10, 1, 5), set(10, 3, 6), set(20, 2, 7), unset(20, 4)}) || err != api.OK {
			t.Errorf("Merge is %v, %v", merged, err)
		}
		one, _ := timeline.Merge(long[:1], nil)
		other, _ := timeline.Merge(nil, long[:1])
		wipe(one)
		if !slices.Equal(other, long[:1]) {
			t.Error("two unions share memory")
		}
		parts, err := timeline.Slices(a, 3, 0, 30)
		if !slices.Equal(parts, []api.Slice{{From: 10, To: 19, Value: 6}, {From: 20, To: 30, Value: 7}}) || err != api.OK {
			t.Errorf("Slices is %v, %v", parts, err)
		}
		ranges, err := timeline.Diff(a, 2, 4, 0, 30)
		if !slices.Equal(ranges, []api.Range{{From: 10, To: 30}}) || err != api.OK {
			t.Errorf("Diff is %v, %v", ranges, err)
		}
		if v, ok, err := timeline.At(a, 25, 4); v != 6 || !ok || err != api.OK {
			t.Errorf("At is %d, %v, %v", v, ok, err)
		}
		wipe(merged)
		wipe(other)
		wipe(parts)
		wipe(ranges)
		if !slices.Equal(long, before) {
			t.Fatal("the arguments have changed")
		}
	}
}
