package rounding_test

import (
	"math"
	"math/big"
	"math/rand"
	"slices"
	"testing"

	"payroll/api"
	"payroll/ratio"
	"payroll/rounding"
)

func of(num, den int) api.Ratio { return api.Ratio{Num: num, Den: den} }

func exact(r api.Ratio) *big.Rat { return big.NewRat(int64(r.Num), int64(r.Den)) }

func modes() []int {
	return []int{
		api.RoundDown, api.RoundUp, api.RoundFloor, api.RoundCeiling, api.RoundHalfUp, api.RoundHalfDown, api.RoundHalfEven,
	}
}

// notModes are integers that are none of the seven modes.
func notModes() []int {
	return []int{-1, 7, 8, math.MaxInt, math.MinInt}
}

// notValid are fractions that are not valid, each for another reason.
func notValid() []api.Ratio {
	return []api.Ratio{
		{}, of(2, 4), of(-2, 4), of(0, 2), of(1, 0), of(1, -1), of(0, -1), of(3, -2), of(api.MaxNum+1, 1),
		of(-api.MaxNum-1, 1), of(1, api.MaxDen+1), of(math.MaxInt, 1), of(math.MinInt, 1), of(1, math.MinInt),
	}
}

// extremes are valid fractions at the limits and near to them.
func extremes() []api.Ratio {
	var l []api.Ratio
	for _, num := range []int{
		1, 2, 3, 7, 999979, 999983, api.MaxDen, 1000003, 499999999999, 500000000001, 999999999989, api.MaxNum - 1, api.MaxNum,
	} {
		for _, den := range []int{1, 2, 3, 7, 499979, 999979, 999983, api.MaxDen - 1, api.MaxDen} {
			if ratio.Valid(of(num, den)) {
				l = append(l, of(num, den), of(-num, den))
			}
		}
	}
	return append(l, of(0, 1))
}

// multiple is the definition of the chapter: the n for which n * u is what x
// is rounded to. It compares the distances to both neighbours.
func multiple(x, u *big.Rat, mode int) *big.Int {
	units := new(big.Rat).Quo(x, u)
	if units.IsInt() {
		return units.Num()
	}
	l := new(big.Int).Div(units.Num(), units.Denom())
	h := new(big.Int).Add(l, big.NewInt(1))
	nearer, farther := l, h // from zero
	if x.Sign() < 0 {
		nearer, farther = h, l
	}
	below := new(big.Rat).Sub(units, new(big.Rat).SetInt(l))
	above := new(big.Rat).Sub(new(big.Rat).SetInt(h), units)
	switch mode {
	case api.RoundDown:
		return nearer
	case api.RoundUp:
		return farther
	case api.RoundFloor:
		return l
	case api.RoundCeiling:
		return h
	}
	switch c := below.Cmp(above); {
	case c < 0:
		return l
	case c > 0:
		return h
	case mode == api.RoundHalfUp:
		return farther
	case mode == api.RoundHalfDown:
		return nearer
	case l.Bit(0) == 0:
		return l
	}
	return h
}

// rounded is what Round has to return for valid arguments.
func rounded(r, unit api.Ratio, mode int) (api.Ratio, api.Errno) {
	n := multiple(exact(r), exact(unit), mode)
	x := new(big.Rat).Mul(exact(unit), new(big.Rat).SetInt(n))
	if x.Num().CmpAbs(big.NewInt(api.MaxNum)) > 0 || x.Denom().Cmp(big.NewInt(api.MaxDen)) > 0 {
		return api.Ratio{}, api.ErrOverflow
	}
	return of(int(x.Num().Int64()), int(x.Denom().Int64())), api.OK
}

func checkRound(t *testing.T, r, unit api.Ratio, mode int) {
	t.Helper()
	want, e := rounded(r, unit, mode)
	if got, err := rounding.Round(r, unit, mode); got != want || err != e {
		t.Errorf("Round(%v, %v, %d) is %v, %v, want %v, %v", r, unit, mode, got, err, want, e)
	}
}

// P2.1

// The columns are the modes: Down, Up, Floor, Ceiling, HalfUp, HalfDown, HalfEven.
func TestRoundTable(t *testing.T) {
	for _, c := range []struct {
		r, unit api.Ratio
		want    [7]api.Ratio
	}{
		{of(5, 2), of(1, 1), [7]api.Ratio{of(2, 1), of(3, 1), of(2, 1), of(3, 1), of(3, 1), of(2, 1), of(2, 1)}},
		{of(-5, 2), of(1, 1), [7]api.Ratio{of(-2, 1), of(-3, 1), of(-3, 1), of(-2, 1), of(-3, 1), of(-2, 1), of(-2, 1)}},
		{of(3, 2), of(1, 1), [7]api.Ratio{of(1, 1), of(2, 1), of(1, 1), of(2, 1), of(2, 1), of(1, 1), of(2, 1)}},
		{of(-3, 2), of(1, 1), [7]api.Ratio{of(-1, 1), of(-2, 1), of(-2, 1), of(-1, 1), of(-2, 1), of(-1, 1), of(-2, 1)}},
		{of(1, 2), of(1, 1), [7]api.Ratio{of(0, 1), of(1, 1), of(0, 1), of(1, 1), of(1, 1), of(0, 1), of(0, 1)}},
		{of(-1, 2), of(1, 1), [7]api.Ratio{of(0, 1), of(-1, 1), of(-1, 1), of(0, 1), of(-1, 1), of(0, 1), of(0, 1)}},
		{of(7, 3), of(1, 1), [7]api.Ratio{of(2, 1), of(3, 1), of(2, 1), of(3, 1), of(2, 1), of(2, 1), of(2, 1)}},
		{of(-7, 3), of(1, 1), [7]api.Ratio{of(-2, 1), of(-3, 1), of(-3, 1), of(-2, 1), of(-2, 1), of(-2, 1), of(-2, 1)}},
		{of(8, 3), of(1, 1), [7]api.Ratio{of(2, 1), of(3, 1), of(2, 1), of(3, 1), of(3, 1), of(3, 1), of(3, 1)}},
		{of(-8, 3), of(1, 1), [7]api.Ratio{of(-2, 1), of(-3, 1), of(-3, 1), of(-2, 1), of(-3, 1), of(-3, 1), of(-3, 1)}},
		{of(4, 3), of(1, 1), [7]api.Ratio{of(1, 1), of(2, 1), of(1, 1), of(2, 1), of(1, 1), of(1, 1), of(1, 1)}},
		{of(7, 100), of(1, 20), [7]api.Ratio{of(1, 20), of(1, 10), of(1, 20), of(1, 10), of(1, 20), of(1, 20), of(1, 20)}},
		{of(3, 40), of(1, 20), [7]api.Ratio{of(1, 20), of(1, 10), of(1, 20), of(1, 10), of(1, 10), of(1, 20), of(1, 10)}},
		{of(-15, 1), of(10, 1), [7]api.Ratio{of(-10, 1), of(-20, 1), of(-20, 1), of(-10, 1), of(-20, 1), of(-10, 1), of(-20, 1)}},
		{of(1, 1), of(2, 3), [7]api.Ratio{of(2, 3), of(4, 3), of(2, 3), of(4, 3), of(4, 3), of(2, 3), of(4, 3)}},
		{of(1, api.MaxDen), of(api.MaxNum, 1), [7]api.Ratio{of(0, 1), of(api.MaxNum, 1), of(0, 1), of(api.MaxNum, 1), of(0, 1), of(0, 1), of(0, 1)}},
	} {
		for _, mode := range modes() {
			if got, err := rounding.Round(c.r, c.unit, mode); got != c.want[mode] || err != api.OK {
				t.Errorf("Round(%v, %v, %d) is %v, %v, want %v", c.r, c.unit, mode, got, err, c.want[mode])
			}
		}
	}
}

func TestRoundOfMultiples(t *testing.T) {
	for _, c := range [][2]api.Ratio{
		{of(0, 1), of(1, 1)}, {of(0, 1), of(3, 7)}, {of(3, 1), of(1, 1)}, {of(-3, 1), of(1, 1)}, {of(-4, 1), of(1, 1)},
		{of(30, 1), of(10, 1)}, {of(-20, 1), of(10, 1)}, {of(3, 20), of(1, 20)}, {of(1, 2), of(1, 4)}, {of(-9, 7), of(3, 7)},
		{of(api.MaxNum, 1), of(1, 1)}, {of(-api.MaxNum, 1), of(1, api.MaxDen)}, {of(api.MaxNum, 1), of(api.MaxNum, 1)},
		{of(api.MaxNum-1, api.MaxDen), of(1, api.MaxDen)}, {of(1, 999983), of(1, 999983)}, {of(-1, api.MaxDen), of(1, api.MaxDen)},
	} {
		for _, mode := range modes() {
			if got, err := rounding.Round(c[0], c[1], mode); got != c[0] || err != api.OK {
				t.Errorf("Round(%v, %v, %d) is %v, %v", c[0], c[1], mode, got, err)
			}
		}
	}
}

func TestRoundOfSmallFractions(t *testing.T) {
	for num := -50; num <= 50; num++ {
		for den := 1; den <= 8; den++ {
			r, _ := ratio.New(num, den)
			for _, unit := range []api.Ratio{of(1, 1), of(2, 1), of(5, 1), of(1, 2), of(1, 20), of(2, 3), of(5, 4), of(3, 7), of(100, 1), of(999983, 999979)} {
				for _, mode := range modes() {
					checkRound(t, r, unit, mode)
				}
			}
		}
	}
}

func TestRoundOfExtremes(t *testing.T) {
	for _, r := range extremes() {
		for _, unit := range extremes() {
			if unit.Num <= 0 {
				continue
			}
			for _, mode := range modes() {
				checkRound(t, r, unit, mode)
			}
		}
	}
}

func TestRoundOfRandomFractions(t *testing.T) {
	source := rand.New(rand.NewSource(2))
	fraction := func() api.Ratio {
		for {
			num := source.Intn(1 << (1 + source.Intn(40)))
			den := 1 + source.Intn(1<<source.Intn(20))
			if r, err := ratio.New(num, den); err == api.OK {
				return r
			}
		}
	}
	for range 20000 {
		r, unit := fraction(), fraction()
		if unit.Num == 0 {
			continue
		}
		for _, mode := range modes() {
			checkRound(t, r, unit, mode)
			checkRound(t, of(-r.Num, r.Den), unit, mode)
		}
	}
}

func TestRoundBeyondTheLimits(t *testing.T) {
	most, least := of(api.MaxNum, 1), of(-api.MaxNum, 1)
	for _, c := range []struct {
		r, unit api.Ratio
		mode    int
		want    api.Ratio
		err     api.Errno
	}{
		{most, of(api.MaxNum-1, 1), api.RoundDown, of(api.MaxNum-1, 1), api.OK},
		{most, of(api.MaxNum-1, 1), api.RoundUp, api.Ratio{}, api.ErrOverflow},
		{most, of(api.MaxNum-1, 1), api.RoundCeiling, api.Ratio{}, api.ErrOverflow},
		{least, of(api.MaxNum-1, 1), api.RoundCeiling, of(1-api.MaxNum, 1), api.OK},
		{least, of(api.MaxNum-1, 1), api.RoundFloor, api.Ratio{}, api.ErrOverflow},
		{least, of(api.MaxNum-1, 1), api.RoundUp, api.Ratio{}, api.ErrOverflow},
		{most, of(73, 1), api.RoundUp, api.Ratio{}, api.ErrOverflow}, // a multiple that is 1 beyond the limit
		{least, of(73, 1), api.RoundUp, api.Ratio{}, api.ErrOverflow},
		{most, of(17, 1), api.RoundFloor, of(999999999987, 1), api.OK},
		{most, of(17, 1), api.RoundHalfUp, api.Ratio{}, api.ErrOverflow},
		{most, of(9, 1), api.RoundHalfUp, of(api.MaxNum-1, 1), api.OK},
		{most, of(666666666667, 1), api.RoundHalfDown, of(666666666667, 1), api.OK},
		{most, of(666666666666, 1), api.RoundHalfDown, api.Ratio{}, api.ErrOverflow},
		{most, of(400000000000, 1), api.RoundHalfDown, of(800000000000, 1), api.OK},
		{most, of(400000000000, 1), api.RoundHalfEven, of(800000000000, 1), api.OK},
		{most, of(400000000000, 1), api.RoundHalfUp, api.Ratio{}, api.ErrOverflow},
		{most, of(1, api.MaxDen), api.RoundUp, most, api.OK},
		{of(500000000001, 1), most, api.RoundHalfEven, most, api.OK},
		{of(500000000000, 1), most, api.RoundHalfEven, of(0, 1), api.OK},
		{of(500000000000, 1), most, api.RoundHalfUp, most, api.OK},
		{of(api.MaxNum-2, 7), of(api.MaxNum, 3), api.RoundUp, of(api.MaxNum, 3), api.OK},
		{of(api.MaxNum, 3), of(999999999999, 999983), api.RoundUp, api.Ratio{}, api.ErrOverflow},
		{of(api.MaxNum-2, 7), of(1, 999983), api.RoundDown, api.Ratio{}, api.ErrOverflow},
		{of(2000000, 1), of(1, 999983), api.RoundUp, of(2000000, 1), api.OK},
		{of(4000001, 2), of(1, 999983), api.RoundDown, api.Ratio{}, api.ErrOverflow},
	} {
		if got, err := rounding.Round(c.r, c.unit, c.mode); got != c.want || err != c.err {
			t.Errorf("Round(%v, %v, %d) is %v, %v, want %v, %v", c.r, c.unit, c.mode, got, err, c.want, c.err)
		}
	}
}

// A fraction that is not valid comes before a wrong unit or mode, and these
// come before a result that does not fit.
func TestRoundErrors(t *testing.T) {
	one, most, great := of(1, 1), of(api.MaxNum, 1), of(api.MaxNum-1, 1)
	check := func(r, unit api.Ratio, mode int, want api.Errno) {
		t.Helper()
		if got, err := rounding.Round(r, unit, mode); got != (api.Ratio{}) || err != want {
			t.Errorf("Round(%v, %v, %d) is %v, %v, want %v", r, unit, mode, got, err, want)
		}
	}
	for _, bad := range notValid() {
		for _, mode := range append(modes(), notModes()...) {
			check(bad, one, mode, api.ErrInvalid)
			check(bad, of(0, 1), mode, api.ErrInvalid)
			check(bad, of(-1, 1), mode, api.ErrInvalid)
			check(bad, bad, mode, api.ErrInvalid)
			check(one, bad, mode, api.ErrInvalid)
			check(of(0, 1), bad, mode, api.ErrInvalid)
		}
	}
	for _, unit := range []api.Ratio{of(0, 1), of(-1, 1), of(-1, 20), of(-api.MaxNum, 1), of(-1, api.MaxDen)} {
		for _, mode := range append(modes(), notModes()...) {
			check(one, unit, mode, api.ErrRange)
			check(of(0, 1), unit, mode, api.ErrRange)
			check(most, unit, mode, api.ErrRange)
		}
	}
	for _, mode := range notModes() {
		check(one, one, mode, api.ErrRange)
		check(most, great, mode, api.ErrRange)
	}
	check(most, great, api.RoundUp, api.ErrOverflow)
}

// A consequence of the chapter.
func TestRoundIsMonotone(t *testing.T) {
	for _, unit := range []api.Ratio{of(1, 1), of(1, 20), of(3, 7), of(5, 2), of(10, 1)} {
		for _, mode := range modes() {
			last := of(-1000, 1)
			for num := -240; num <= 240; num++ {
				r, _ := ratio.New(num, 24)
				got, err := rounding.Round(r, unit, mode)
				if err != api.OK || ratio.Compare(got, last) < 0 {
					t.Errorf("Round(%v, %v, %d) is %v, %v, after %v", r, unit, mode, got, err, last)
				}
				last = got
			}
		}
	}
}

// P2.2

func TestCents(t *testing.T) {
	for _, c := range []struct {
		r    api.Ratio
		want [7]int
	}{
		{of(5, 2), [7]int{2, 3, 2, 3, 3, 2, 2}},
		{of(-5, 2), [7]int{-2, -3, -3, -2, -3, -2, -2}},
		{of(7, 2), [7]int{3, 4, 3, 4, 4, 3, 4}},
		{of(-1, 3), [7]int{0, -1, -1, 0, 0, 0, 0}},
		{of(2, 3), [7]int{0, 1, 0, 1, 1, 1, 1}},
		{of(0, 1), [7]int{}},
		{of(41, 1), [7]int{41, 41, 41, 41, 41, 41, 41}},
		{of(api.MaxNum-1, api.MaxDen), [7]int{999999, 1000000, 999999, 1000000, 1000000, 1000000, 1000000}},
		{of(1-api.MaxNum, api.MaxDen), [7]int{-999999, -1000000, -1000000, -999999, -1000000, -1000000, -1000000}},
		{of(api.MaxNum, 1), [7]int{api.MaxNum, api.MaxNum, api.MaxNum, api.MaxNum, api.MaxNum, api.MaxNum, api.MaxNum}},
		{of(-api.MaxNum, 1), [7]int{-api.MaxNum, -api.MaxNum, -api.MaxNum, -api.MaxNum, -api.MaxNum, -api.MaxNum, -api.MaxNum}},
	} {
		for _, mode := range modes() {
			if got, err := rounding.Cents(c.r, mode); got != c.want[mode] || err != api.OK {
				t.Errorf("Cents(%v, %d) is %d, %v, want %d", c.r, mode, got, err, c.want[mode])
			}
		}
	}
	for _, r := range extremes() {
		for _, mode := range modes() {
			want := multiple(exact(r), big.NewRat(1, 1), mode)
			if got, err := rounding.Cents(r, mode); int64(got) != want.Int64() || err != api.OK {
				t.Errorf("Cents(%v, %d) is %d, %v, want %v", r, mode, got, err, want)
			}
		}
	}
}

func TestCentsErrors(t *testing.T) {
	for _, bad := range notValid() {
		for _, mode := range append(modes(), notModes()...) {
			if got, err := rounding.Cents(bad, mode); got != 0 || err != api.ErrInvalid {
				t.Errorf("Cents(%v, %d) is %d, %v", bad, mode, got, err)
			}
		}
	}
	for _, mode := range notModes() {
		for _, r := range []api.Ratio{of(0, 1), of(3, 1), of(-5, 2), of(api.MaxNum, 1)} {
			if got, err := rounding.Cents(r, mode); got != 0 || err != api.ErrRange {
				t.Errorf("Cents(%v, %d) is %d, %v", r, mode, got, err)
			}
		}
	}
}

// part is what Part has to return for arguments within the limits.
func part(amount, num, den, unit, mode int) (int, api.Errno) {
	x := new(big.Rat).Mul(big.NewRat(int64(amount), int64(den)), big.NewRat(int64(num), 1))
	n := multiple(x, big.NewRat(int64(unit), 1), mode)
	n = new(big.Int).Mul(n, big.NewInt(int64(unit)))
	if n.CmpAbs(big.NewInt(api.MaxNum)) > 0 {
		return 0, api.ErrOverflow
	}
	return int(n.Int64()), api.OK
}

func checkPart(t *testing.T, amount, num, den, unit, mode int) {
	t.Helper()
	want, e := part(amount, num, den, unit, mode)
	if got, err := rounding.Part(amount, num, den, unit, mode); got != want || err != e {
		t.Errorf("Part(%d, %d, %d, %d, %d) is %d, %v, want %d, %v", amount, num, den, unit, mode, got, err, want, e)
	}
}

func TestPartTable(t *testing.T) {
	for _, c := range []struct {
		amount, num, den, unit int
		want                   [7]int
	}{
		{250, 1, 100, 1, [7]int{2, 3, 2, 3, 3, 2, 2}},
		{-250, 1, 100, 1, [7]int{-2, -3, -3, -2, -3, -2, -2}},
		{350, 1, 100, 1, [7]int{3, 4, 3, 4, 4, 3, 4}},
		{100, 1, 3, 1, [7]int{33, 34, 33, 34, 33, 33, 33}},
		{-200, 1, 3, 1, [7]int{-66, -67, -67, -66, -67, -67, -67}},
		{100, 1, 3, 5, [7]int{30, 35, 30, 35, 35, 35, 35}},
		{245, 1, 100, 5, [7]int{0, 5, 0, 5, 0, 0, 0}}, // 2.45, not first 2 or 3 and then 5
		{249, 1, 100, 5, [7]int{0, 5, 0, 5, 0, 0, 0}},
		{250, 1, 100, 5, [7]int{0, 5, 0, 5, 5, 0, 0}},
		{-750, 1, 100, 5, [7]int{-5, -10, -10, -5, -10, -5, -10}},
		{0, 999999, 7, 10, [7]int{}},
		{12345, 0, 7, 10, [7]int{}},
		{-12345, 0, 7, 10, [7]int{}},
		{600, 2, 3, 100, [7]int{400, 400, 400, 400, 400, 400, 400}},
		{-600, 2, 3, 100, [7]int{-400, -400, -400, -400, -400, -400, -400}},
		{1, 1, 1000000, api.MaxUnit, [7]int{0, 1000000, 0, 1000000, 0, 0, 0}},
		{1, 999983, 999979, 1, [7]int{1, 2, 1, 2, 1, 1, 1}},
	} {
		for _, mode := range modes() {
			if got, err := rounding.Part(c.amount, c.num, c.den, c.unit, mode); got != c.want[mode] || err != api.OK {
				t.Errorf("Part(%d, %d, %d, %d, %d) is %d, %v, want %d", c.amount, c.num, c.den, c.unit, mode, got, err, c.want[mode])
			}
		}
	}
}

// The exact number is rounded, also where it is no valid fraction.
func TestPartOfExtremes(t *testing.T) {
	for _, amount := range []int{0, 1, 3, 999983, 333333333333, 500000000000, 999999500000, 999999999989, api.MaxNum - 1, api.MaxNum} {
		for _, num := range []int{0, 1, 2, 3, 499999, 500000, 999979, 999999, 1000000} {
			for _, den := range []int{1, 2, 3, 7, 500000, 999983, 999999, 1000000} {
				for _, unit := range []int{1, 2, 5, 7, 100, 999979, api.MaxUnit - 1, api.MaxUnit} {
					for _, mode := range modes() {
						checkPart(t, amount, num, den, unit, mode)
						checkPart(t, -amount, num, den, unit, mode)
					}
				}
			}
		}
	}
}

func TestPartOfSmallNumbers(t *testing.T) {
	for amount := -30; amount <= 30; amount++ {
		for num := 0; num <= 6; num++ {
			for den := 1; den <= 6; den++ {
				for unit := 1; unit <= 5; unit++ {
					for _, mode := range modes() {
						checkPart(t, amount, num, den, unit, mode)
					}
				}
			}
		}
	}
}

func TestPartErrors(t *testing.T) {
	type arguments struct{ amount, num, den, unit, mode int }
	check := func(a arguments, want api.Errno) {
		t.Helper()
		if got, err := rounding.Part(a.amount, a.num, a.den, a.unit, a.mode); err != want || err != api.OK && got != 0 {
			t.Errorf("Part of %+v is %d, %v, want %v", a, got, err, want)
		}
	}
	// each argument at its limits, and beyond: in front of others with which the result does not fit
	for _, a := range []arguments{{1, 1, 1, 1, 0}, {api.MaxNum, 1000000, 1, 7, api.RoundUp}} {
		for _, n := range []int{api.MaxNum + 1, -api.MaxNum - 1, math.MaxInt, math.MinInt} {
			b := a
			b.amount = n
			check(b, api.ErrRange)
		}
		for _, n := range []int{-1, 1000001, math.MaxInt, math.MinInt} {
			b := a
			b.num = n
			check(b, api.ErrRange)
		}
		for _, n := range []int{0, -1, 1000001, math.MaxInt, math.MinInt} {
			b := a
			b.den = n
			check(b, api.ErrRange)
		}
		for _, n := range []int{0, -1, api.MaxUnit + 1, math.MaxInt, math.MinInt} {
			b := a
			b.unit = n
			check(b, api.ErrRange)
		}
		for _, n := range notModes() {
			b := a
			b.mode = n
			check(b, api.ErrRange)
		}
	}
	for _, a := range []arguments{
		{api.MaxNum, 1000000, 1000000, 1, 0}, {-api.MaxNum, 1000000, 1000000, 1, 1}, {api.MaxNum, 0, 1, 1, 6},
		{api.MaxNum, 1, 1, api.MaxUnit, 1}, {1, 1, 1000000, api.MaxUnit, 1}, {api.MaxNum, 1, 1, 7, api.RoundDown},
		{api.MaxNum - 1, 1, 1, 2, api.RoundUp}, {999999999999, 1, 1, 10, api.RoundCeiling}, {-api.MaxNum, 1, 1, 7, api.RoundCeiling},
	} {
		check(a, api.OK)
	}
	for _, a := range []arguments{
		{api.MaxNum, 2, 1, 1, 0}, {-api.MaxNum, 2, 1, 1, 0}, {api.MaxNum, 1000000, 1, 1, 0}, {-api.MaxNum, 1000000, 1, api.MaxUnit, 0},
		{api.MaxNum, 1000000, 999999, 1, 0}, {api.MaxNum, 1, 1, 7, api.RoundUp}, {-api.MaxNum, 1, 1, 7, api.RoundFloor},
		{api.MaxNum, 1, 1, 17, api.RoundHalfUp}, {999999999988, 1, 1, 17, api.RoundUp},
		{api.MaxNum, 1, 1, 73, api.RoundUp}, {-api.MaxNum, 1, 1, 73, api.RoundFloor}, // a multiple that is 1 beyond the limit
	} {
		check(a, api.ErrOverflow)
	}
}

// P2.3

// allocated is the definition of the chapter: floors of the exact parts, and
// what is missing is given to the greatest fractional remainders, one by one.
func allocated(total int, weights []int) []int {
	sign := 1
	if total < 0 {
		sign = -1
	}
	s := 0
	for _, w := range weights {
		s += w
	}
	parts := make([]int, len(weights))
	remainders := make([]*big.Rat, len(weights))
	missing := sign * total
	for i, w := range weights {
		x := new(big.Rat).Mul(big.NewRat(int64(sign*total), int64(s)), big.NewRat(int64(w), 1))
		floor := new(big.Int).Div(x.Num(), x.Denom())
		parts[i] = int(floor.Int64())
		remainders[i] = x.Sub(x, new(big.Rat).SetInt(floor))
		missing -= parts[i]
	}
	for ; missing > 0; missing-- {
		best := 0
		for i, r := range remainders {
			if r.Cmp(remainders[best]) > 0 {
				best = i
			}
		}
		parts[best]++
		remainders[best] = big.NewRat(-1, 1)
	}
	for i := range parts {
		parts[i] *= sign
	}
	return parts
}

func checkAllocate(t *testing.T, total int, weights []int) {
	t.Helper()
	before := slices.Clone(weights)
	got, err := rounding.Allocate(total, weights)
	if want := allocated(total, weights); err != api.OK || !slices.Equal(got, want) {
		t.Errorf("Allocate(%d, %v) is %v, %v, want %v", total, weights, got, err, want)
	}
	sum := 0
	for _, p := range got {
		sum += p
	}
	if sum != total {
		t.Errorf("the parts of Allocate(%d, %v) add up to %d", total, weights, sum)
	}
	if !slices.Equal(weights, before) {
		t.Errorf("Allocate(%d, %v) changes the weights to %v", total, before, weights)
	}
}

func TestAllocateTable(t *testing.T) {
	for _, c := range []struct {
		total         int
		weights, want []int
	}{
		{100, []int{1, 1, 1}, []int{34, 33, 33}},
		{-100, []int{1, 1, 1}, []int{-34, -33, -33}},
		{101, []int{1, 1, 1}, []int{34, 34, 33}},
		{-101, []int{1, 1, 1}, []int{-34, -34, -33}},
		{99, []int{1, 1, 1}, []int{33, 33, 33}},
		{100, []int{1}, []int{100}},
		{0, []int{1, 2}, []int{0, 0}},
		{0, []int{5, 0}, []int{0, 0}},
		{7, []int{0, 3, 0}, []int{0, 7, 0}},
		{1, []int{0, 1, 1}, []int{0, 1, 0}},
		{-1, []int{0, 1, 1, 0}, []int{0, -1, 0, 0}},
		{5, []int{2, 3}, []int{2, 3}},
		{10, []int{1, 2, 4}, []int{1, 3, 6}},            // remainders 3/7, 6/7, 5/7
		{-10, []int{1, 2, 4}, []int{-1, -3, -6}},        // not the floors of -10/7, -20/7, -40/7
		{3, []int{1, 5, 1}, []int{1, 2, 0}},             // remainders 3/7, 1/7, 3/7
		{9, []int{5, 5, 5, 3}, []int{3, 3, 2, 1}},       // four equal remainders, 1/2
		{5, []int{1, 3, 1, 3}, []int{1, 2, 0, 2}},       // remainders 5/8, 7/8, 5/8, 7/8
		{1000, []int{1, 1, 999999}, []int{0, 0, 1000}},  // the smallest remainders get nothing
		{2, []int{1, 1000, 1, 1000}, []int{0, 1, 0, 1}}, // remainders 1/1001, 1000/1001
		{api.MaxAmount, []int{api.MaxAmount}, []int{api.MaxAmount}},
		{-api.MaxAmount, []int{api.MaxAmount, 0}, []int{-api.MaxAmount, 0}},
		{api.MaxAmount, []int{api.MaxAmount, api.MaxAmount}, []int{500000000, 500000000}},
		{api.MaxAmount, []int{api.MaxAmount, 1}, []int{999999999, 1}},
		{1, []int{api.MaxAmount, api.MaxAmount, api.MaxAmount}, []int{1, 0, 0}},
	} {
		if got, err := rounding.Allocate(c.total, c.weights); err != api.OK || !slices.Equal(got, c.want) {
			t.Errorf("Allocate(%d, %v) is %v, %v, want %v", c.total, c.weights, got, err, c.want)
		}
		checkAllocate(t, c.total, c.weights)
	}
}

func TestAllocateOfSmallNumbers(t *testing.T) {
	for total := -25; total <= 25; total++ {
		for a := range 6 {
			for b := range 6 {
				for c := range 6 {
					if a+b+c > 0 {
						checkAllocate(t, total, []int{a, b, c})
						checkAllocate(t, total, []int{a, b, c, b, a, 1})
					}
				}
			}
		}
	}
}

// Among equal remainders those with the least index are greater, also in lists
// that are longer than those that every sort leaves in order.
func TestAllocateOfEqualRemainders(t *testing.T) {
	for _, n := range []int{13, 64, 100, api.MaxList} {
		weights := make([]int, n)
		for i := range weights {
			weights[i] = 1
		}
		for _, more := range []int{0, 1, 2, n / 2, n - 1} {
			checkAllocate(t, n+more, weights)
			checkAllocate(t, -n-more, weights)
			got, _ := rounding.Allocate(n+more, weights)
			for i, p := range got {
				if want := 1; (i < more && p != want+1) || (i >= more && p != want) {
					t.Errorf("part %d of %d of %d is %d", i, n, n+more, p)
				}
			}
		}
		for i := range weights {
			weights[i] = 1 + i%3 // three classes of equal remainders
		}
		for _, total := range []int{1, n / 3, n / 2, n, n + n/2, 3*n - 1, 12345} {
			checkAllocate(t, total, weights)
			checkAllocate(t, -total, weights)
		}
	}
}

func TestAllocateOfRandomWeights(t *testing.T) {
	source := rand.New(rand.NewSource(3))
	for range 3000 {
		weights := make([]int, 1+source.Intn(40))
		limit := []int{2, 5, 100, api.MaxAmount}[source.Intn(4)]
		for i := range weights {
			weights[i] = source.Intn(limit + 1)
		}
		weights[source.Intn(len(weights))] = 1
		total := source.Intn([]int{10, 1000, api.MaxAmount}[source.Intn(3)] + 1)
		checkAllocate(t, total, weights)
		checkAllocate(t, -total, weights)
	}
}

func TestAllocateAtTheLimits(t *testing.T) {
	weights := make([]int, api.MaxList)
	for i := range weights {
		weights[i] = api.MaxAmount - i%5
	}
	for _, total := range []int{api.MaxAmount, -api.MaxAmount, api.MaxAmount - 1, 1, -1, 0} {
		checkAllocate(t, total, weights)
	}
}

// A consequence of the chapter.
func TestAllocateGivesNothingForAWeightOfZero(t *testing.T) {
	for total := -40; total <= 40; total++ {
		got, err := rounding.Allocate(total, []int{0, 3, 0, 0, 4, 7, 0, 9})
		if err != api.OK {
			t.Fatal(total, err)
		}
		for _, i := range []int{0, 2, 3, 6} {
			if got[i] != 0 {
				t.Errorf("part %d of %d is %d", i, total, got[i])
			}
		}
	}
}

// Too many weights come before a wrong total or weight, and these come before
// a sum of 0.
func TestAllocateErrors(t *testing.T) {
	many := make([]int, api.MaxList+1)
	ones := slices.Clone(many)
	for i := range ones {
		ones[i] = 1
	}
	wrong := slices.Clone(many)
	wrong[api.MaxList] = -1
	last := slices.Clone(many[:api.MaxList])
	last[api.MaxList-1] = api.MaxAmount + 1
	for i, c := range []struct {
		total   int
		weights []int
		want    api.Errno
	}{
		{1, ones, api.ErrLimit},
		{1, many, api.ErrLimit},
		{1, wrong, api.ErrLimit},
		{api.MaxAmount + 1, ones, api.ErrLimit},
		{math.MinInt, wrong, api.ErrLimit},
		{1, make([]int, 5000), api.ErrLimit},
		{api.MaxAmount + 1, []int{1}, api.ErrRange},
		{-api.MaxAmount - 1, []int{1}, api.ErrRange},
		{math.MaxInt, []int{1}, api.ErrRange},
		{math.MinInt, []int{1}, api.ErrRange},
		{api.MaxAmount + 1, nil, api.ErrRange},
		{api.MaxAmount + 1, []int{0, 0}, api.ErrRange},
		{1, []int{-1}, api.ErrRange},
		{0, []int{0, -1}, api.ErrRange},
		{1, []int{1, -1}, api.ErrRange}, // the sum is 0 as well
		{1, []int{5, 7, -1, 8}, api.ErrRange},
		{1, []int{api.MaxAmount + 1}, api.ErrRange},
		{1, []int{0, api.MaxAmount + 1}, api.ErrRange},
		{1, []int{math.MinInt, math.MinInt}, api.ErrRange},
		{1, []int{math.MaxInt, math.MaxInt, 2}, api.ErrRange},
		{1, last, api.ErrRange},
		{1, []int{0}, api.ErrZero},
		{1, []int{0, 0}, api.ErrZero},
		{-1, []int{0, 0}, api.ErrZero},
		{1, many[:api.MaxList], api.ErrZero},
		{0, nil, api.ErrZero},
		{0, []int{}, api.ErrZero},
		{api.MaxAmount, nil, api.ErrZero},
	} {
		if got, err := rounding.Allocate(c.total, c.weights); err != c.want || len(got) != 0 {
			t.Errorf("case %d: %v, %v, want %v", i, got, err, c.want)
		}
	}
}

// R2: the parts share no memory with the weights or with other parts.
func TestAllocateSharesNoMemory(t *testing.T) {
	for _, total := range []int{100, -100} {
		weights := []int{1, 1, 1}
		first, _ := rounding.Allocate(total, weights)
		second, _ := rounding.Allocate(total, weights)
		want := slices.Clone(second)
		clear(first)
		if !slices.Equal(second, want) || !slices.Equal(weights, []int{1, 1, 1}) {
			t.Errorf("writing into a result gives %v and %v", second, weights)
		}
	}
}

// P2.4

func TestCarryTable(t *testing.T) {
	for _, c := range []struct {
		rest, amount, unit api.Ratio
		mode               int
		rounded, left      api.Ratio
	}{
		{of(0, 1), of(1, 3), of(1, 1), api.RoundDown, of(0, 1), of(1, 3)},
		{of(2, 3), of(1, 3), of(1, 1), api.RoundDown, of(1, 1), of(0, 1)},
		{of(0, 1), of(1, 3), of(1, 1), api.RoundUp, of(1, 1), of(-2, 3)},
		{of(-2, 3), of(1, 3), of(1, 1), api.RoundUp, of(-1, 1), of(2, 3)},
		{of(1, 2), of(1, 1), of(1, 1), api.RoundHalfEven, of(2, 1), of(-1, 2)},
		{of(-1, 4), of(-1, 2), of(1, 1), api.RoundHalfUp, of(-1, 1), of(1, 4)},
		{of(1, 40), of(1, 10), of(1, 20), api.RoundHalfDown, of(1, 10), of(1, 40)},
		{of(1, 40), of(1, 10), of(1, 20), api.RoundHalfUp, of(3, 20), of(-1, 40)},
		{of(3, 1), of(4, 1), of(5, 1), api.RoundFloor, of(5, 1), of(2, 1)},
		{of(3, 1), of(4, 1), of(5, 1), api.RoundCeiling, of(10, 1), of(-3, 1)},
		{of(5, 1), of(-5, 1), of(3, 1), api.RoundCeiling, of(0, 1), of(0, 1)},
		{of(api.MaxNum-1, 1), of(1, 1), of(1, 1), api.RoundUp, of(api.MaxNum, 1), of(0, 1)},
		{of(-api.MaxNum, 1), of(0, 1), of(api.MaxNum-1, 1), api.RoundDown, of(1-api.MaxNum, 1), of(-1, 1)},
	} {
		got, left, err := rounding.Carry(c.rest, c.amount, c.unit, c.mode)
		if got != c.rounded || left != c.left || err != api.OK {
			t.Errorf("Carry(%v, %v, %v, %d) is %v, %v, %v, want %v, %v", c.rest, c.amount, c.unit, c.mode, got, left, err, c.rounded, c.left)
		}
	}
}

// The rounded sum and the new remainder are those of Add, Round and Sub, and
// so are the errors.
func TestCarryOfExtremes(t *testing.T) {
	numbers := []api.Ratio{
		of(0, 1), of(1, 1), of(-1, 3), of(5, 2), of(1, 999983), of(-1, 999979), of(1, api.MaxDen), of(api.MaxNum, 1), of(-api.MaxNum, 1),
		of(api.MaxNum-1, 1), of(api.MaxNum-1, 7), of(999999999989, 999983), of(2, 4), of(1, 0),
	}
	for _, rest := range numbers {
		for _, amount := range numbers {
			for _, unit := range append(numbers, of(1, 20), of(7, 1)) {
				for mode := -1; mode <= 7; mode++ {
					sum, e := ratio.Add(rest, amount)
					var paid, left api.Ratio
					if e == api.OK {
						paid, e = rounding.Round(sum, unit, mode)
					}
					if e == api.OK {
						left, e = ratio.Sub(sum, paid)
					}
					if e != api.OK {
						paid, left = api.Ratio{}, api.Ratio{}
					}
					x, y, err := rounding.Carry(rest, amount, unit, mode)
					if x != paid || y != left || err != e {
						t.Errorf("Carry(%v, %v, %v, %d) is %v, %v, %v, want %v, %v, %v", rest, amount, unit, mode, x, y, err, paid, left, e)
					}
				}
			}
		}
	}
}

func TestCarryErrors(t *testing.T) {
	one, most := of(1, 1), of(api.MaxNum, 1)
	for _, c := range []struct {
		rest, amount, unit api.Ratio
		mode               int
		want               api.Errno
	}{
		{of(2, 4), one, of(0, 1), 9, api.ErrInvalid},
		{one, of(2, 4), of(0, 1), 9, api.ErrInvalid},
		{of(2, 4), most, of(2, 4), 9, api.ErrInvalid},
		{most, one, of(2, 4), 9, api.ErrOverflow}, // Add comes before Round
		{most, one, of(0, 1), 9, api.ErrOverflow},
		{most, of(1, 2), one, api.RoundDown, api.ErrOverflow},
		{of(1, 999983), of(1, 999979), one, api.RoundDown, api.ErrOverflow},
		{one, one, of(2, 4), 9, api.ErrInvalid},
		{one, one, api.Ratio{}, api.RoundUp, api.ErrInvalid},
		{one, one, of(0, 1), api.RoundUp, api.ErrRange},
		{one, one, of(-1, 1), api.RoundUp, api.ErrRange},
		{one, one, one, -1, api.ErrRange},
		{one, one, one, 7, api.ErrRange},
		{of(api.MaxNum-1, 1), one, of(7, 1), api.RoundUp, api.ErrOverflow},                 // Round
		{of(1, 999983), of(0, 1), of(1, 999979), api.RoundUp, api.ErrOverflow},             // Sub: its denominator
		{of(0, 1), of(api.MaxNum-2, 7), of(api.MaxNum-2, 3), api.RoundUp, api.ErrOverflow}, // Sub: its numerator
	} {
		x, y, err := rounding.Carry(c.rest, c.amount, c.unit, c.mode)
		if x != (api.Ratio{}) || y != (api.Ratio{}) || err != c.want {
			t.Errorf("Carry(%v, %v, %v, %d) is %v, %v, %v, want %v", c.rest, c.amount, c.unit, c.mode, x, y, err, c.want)
		}
	}
}

// The chapter's example: 1/3 three times, with the unit 1.
func TestCarryThirds(t *testing.T) {
	rest := of(0, 1)
	for i, want := range []int{0, 0, 1, 0, 0, 1} {
		paid, left, err := rounding.Carry(rest, of(1, 3), of(1, 1), api.RoundDown)
		if paid != of(want, 1) || err != api.OK {
			t.Errorf("payment %d is %v, %v", i, paid, err)
		}
		rest = left
	}
	if rest != of(0, 1) {
		t.Errorf("%v is left", rest)
	}
}

// A consequence of the chapter: what is paid and what is left in the end add
// up to the amounts.
func TestCarryConserves(t *testing.T) {
	amounts := []api.Ratio{of(1, 3), of(-7, 4), of(10, 3), of(0, 1), of(5, 12), of(-1, 6), of(100, 1), of(1, 2), of(-99, 4)}
	for _, unit := range []api.Ratio{of(1, 1), of(1, 20), of(5, 1), of(2, 3)} {
		for _, mode := range modes() {
			rest, paid, total := of(0, 1), of(0, 1), of(0, 1)
			for _, amount := range amounts {
				x, left, err := rounding.Carry(rest, amount, unit, mode)
				if err != api.OK {
					t.Fatal(rest, amount, unit, mode, err)
				}
				rest = left
				paid, _ = ratio.Add(paid, x)
				total, _ = ratio.Add(total, amount)
			}
			if sum, err := ratio.Add(paid, rest); sum != total || err != api.OK {
				t.Errorf("unit %v, mode %d: %v and %v are not %v", unit, mode, paid, rest, total)
			}
		}
	}
}
