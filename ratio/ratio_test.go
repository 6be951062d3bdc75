package ratio_test

import (
	"math"
	"math/big"
	"regexp"
	"strings"
	"testing"

	"payroll/api"
	"payroll/ratio"
)

// operation is one of Add, Sub, Mul and Div, with the exact operation it stands for.
type operation struct {
	name  string
	call  func(a, b api.Ratio) (api.Ratio, api.Errno)
	exact func(z, x, y *big.Rat) *big.Rat
}

func operations() []operation {
	return []operation{
		{"Add", ratio.Add, (*big.Rat).Add},
		{"Sub", ratio.Sub, (*big.Rat).Sub},
		{"Mul", ratio.Mul, (*big.Rat).Mul},
		{"Div", ratio.Div, (*big.Rat).Quo},
	}
}

func of(num, den int) api.Ratio { return api.Ratio{Num: num, Den: den} }

func exact(r api.Ratio) *big.Rat { return big.NewRat(int64(r.Num), int64(r.Den)) }

// fitting returns the valid fraction of x, or ErrOverflow.
func fitting(x *big.Rat) (api.Ratio, api.Errno) {
	limit := big.NewInt(api.MaxNum)
	if x.Num().CmpAbs(limit) > 0 || x.Denom().Cmp(big.NewInt(api.MaxDen)) > 0 {
		return api.Ratio{}, api.ErrOverflow
	}
	return of(int(x.Num().Int64()), int(x.Denom().Int64())), api.OK
}

// extremes are integers at and around every limit.
func extremes() []int {
	l := []int{0, math.MaxInt, math.MaxInt - 1, math.MinInt, math.MinInt + 1, math.MinInt + 2}
	for _, n := range []int{
		1, 2, 3, 4, 6, 7, 12, 999, 999983, api.MaxDen - 1, api.MaxDen, api.MaxDen + 1, 1000003, 2 * api.MaxDen,
		1 << 31, 1 << 32, 1 << 39, 999999999989, api.MaxNum - 1, api.MaxNum, api.MaxNum + 1, 2 * api.MaxNum, 1 << 62,
	} {
		l = append(l, n, -n)
	}
	return l
}

// valid are valid fractions: small ones, and those at the limits.
func valid() []api.Ratio {
	var l []api.Ratio
	add := func(num, den int) {
		x := big.NewRat(int64(num), int64(den))
		if x.Denom().Int64() == int64(den) {
			l = append(l, of(num, den))
		}
	}
	for num := -8; num <= 8; num++ {
		for den := 1; den <= 6; den++ {
			add(num, den)
		}
	}
	for _, num := range []int{
		999, 999983, 1000003, 1 << 31, 1 << 32, 1 << 39, 142857142857, 500000000000, 500000000001, 999999999989, api.MaxNum - 1, api.MaxNum,
	} {
		for _, den := range []int{1, 2, 3, 7, 1 << 19, 999979, 999983, api.MaxDen - 1, api.MaxDen} {
			add(num, den)
			add(-num, den)
		}
	}
	for _, den := range []int{7, 999, 1000, 500000, 500001, 999979, 999983, api.MaxDen - 1, api.MaxDen} {
		add(1, den)
		add(-1, den)
		add(den-1, den)
	}
	return l
}

// invalid are fractions that are not valid, each for another reason.
func invalid() []api.Ratio {
	return []api.Ratio{
		{},
		of(0, 2), of(0, api.MaxDen), of(2, 4), of(-2, 4), of(2, 2), of(-2, 2), of(6, 3), of(api.MaxNum, api.MaxDen),
		of(1, 0), of(-1, 0), of(1, -1), of(-1, -1), of(0, -1), of(3, -2), of(1, -api.MaxDen),
		of(api.MaxNum+1, 1), of(-api.MaxNum-1, 1), of(api.MaxNum+1, 7), of(1, api.MaxDen+1), of(-1, api.MaxDen+1),
		of(math.MaxInt, 1), of(math.MinInt, 1), of(1, math.MaxInt), of(1, math.MinInt), of(0, math.MinInt),
		of(math.MinInt, math.MinInt), of(math.MaxInt, math.MaxInt), of(math.MinInt, 0), of(math.MinInt, -1),
	}
}

// P1.1

func TestValid(t *testing.T) {
	for _, r := range valid() {
		if !ratio.Valid(r) {
			t.Errorf("%v is refused", r)
		}
	}
	for _, r := range []api.Ratio{of(0, 1), of(api.MaxNum, 1), of(-api.MaxNum, 1), of(1, api.MaxDen), of(-1, api.MaxDen), of(api.MaxNum-1, api.MaxDen), of(1-api.MaxNum, api.MaxDen)} {
		if !ratio.Valid(r) {
			t.Errorf("%v is refused", r)
		}
	}
	for _, r := range invalid() {
		if ratio.Valid(r) {
			t.Errorf("%v is accepted", r)
		}
	}
}

func TestValidOfAllSmallFractions(t *testing.T) {
	for num := -40; num <= 40; num++ {
		for den := -40; den <= 40; den++ {
			want := den > 0 && exact(of(num, max(den, 1))).Denom().Int64() == int64(den)
			if got := ratio.Valid(of(num, den)); got != want {
				t.Errorf("%d/%d: %v, want %v", num, den, got, want)
			}
		}
	}
}

func TestNewExamples(t *testing.T) {
	for _, c := range []struct {
		num, den int
		want     api.Ratio
		err      api.Errno
	}{
		{6, -4, of(-3, 2), api.OK},
		{-6, -4, of(3, 2), api.OK},
		{-6, 4, of(-3, 2), api.OK},
		{0, 5, of(0, 1), api.OK},
		{0, -5, of(0, 1), api.OK},
		{0, math.MinInt, of(0, 1), api.OK},
		{1, 1000003, api.Ratio{}, api.ErrOverflow},
		{1000003, 1000003, of(1, 1), api.OK},
		{1000003, -1000003, of(-1, 1), api.OK},
		{math.MinInt, math.MinInt, of(1, 1), api.OK},
		{math.MaxInt, math.MaxInt, of(1, 1), api.OK},
		{-math.MaxInt, math.MaxInt, of(-1, 1), api.OK},
		{math.MinInt, 1 << 62, of(-2, 1), api.OK},
		{1 << 62, math.MinInt, of(-1, 2), api.OK},
		{math.MinInt, -1 << 62, of(2, 1), api.OK},
		{math.MinInt, -1, api.Ratio{}, api.ErrOverflow},
		{math.MinInt, 1, api.Ratio{}, api.ErrOverflow},
		{math.MinInt, math.MaxInt, api.Ratio{}, api.ErrOverflow},
		{api.MaxNum, 1, of(api.MaxNum, 1), api.OK},
		{api.MaxNum, -1, of(-api.MaxNum, 1), api.OK},
		{api.MaxNum + 1, 1, api.Ratio{}, api.ErrOverflow},
		{-api.MaxNum - 1, 1, api.Ratio{}, api.ErrOverflow},
		{2 * api.MaxNum, 2, of(api.MaxNum, 1), api.OK},
		{1, api.MaxDen, of(1, api.MaxDen), api.OK},
		{1, -api.MaxDen, of(-1, api.MaxDen), api.OK},
		{1, api.MaxDen + 1, api.Ratio{}, api.ErrOverflow},
		{2, 2 * api.MaxDen, of(1, api.MaxDen), api.OK},
		{0, 0, api.Ratio{}, api.ErrZero},
		{1, 0, api.Ratio{}, api.ErrZero},
		{math.MinInt, 0, api.Ratio{}, api.ErrZero},
		{api.MaxNum + 1, 0, api.Ratio{}, api.ErrZero},
	} {
		if got, err := ratio.New(c.num, c.den); got != c.want || err != c.err {
			t.Errorf("New(%d, %d) is %v, %v, want %v, %v", c.num, c.den, got, err, c.want, c.err)
		}
	}
}

func TestNewOfAllIntegers(t *testing.T) {
	for _, num := range extremes() {
		for _, den := range extremes() {
			got, err := ratio.New(num, den)
			if den == 0 {
				if got != (api.Ratio{}) || err != api.ErrZero {
					t.Errorf("New(%d, 0) is %v, %v", num, got, err)
				}
				continue
			}
			want, e := fitting(new(big.Rat).SetFrac(big.NewInt(int64(num)), big.NewInt(int64(den))))
			if got != want || err != e {
				t.Errorf("New(%d, %d) is %v, %v, want %v, %v", num, den, got, err, want, e)
			}
			if err == api.OK && !ratio.Valid(got) {
				t.Errorf("New(%d, %d) is %v, which is not valid", num, den, got)
			}
		}
	}
}

// P1.2

func TestArithmetic(t *testing.T) {
	for _, o := range operations() {
		for _, a := range valid() {
			for _, b := range valid() {
				if o.name == "Div" && b.Num == 0 {
					continue
				}
				want, e := fitting(o.exact(new(big.Rat), exact(a), exact(b)))
				if got, err := o.call(a, b); got != want || err != e {
					t.Fatalf("%s(%v, %v) is %v, %v, want %v, %v", o.name, a, b, got, err, want, e)
				}
			}
		}
	}
}

func TestArithmeticExamples(t *testing.T) {
	add, sub, mul, div := ratio.Add, ratio.Sub, ratio.Mul, ratio.Div
	most, least := of(api.MaxNum, 1), of(1, api.MaxDen)
	for i, c := range []struct {
		call func(a, b api.Ratio) (api.Ratio, api.Errno)
		a, b api.Ratio
		want api.Ratio
		err  api.Errno
	}{
		{add, of(1, 2), of(1, 3), of(5, 6), api.OK},
		{add, of(1, 6), of(1, 3), of(1, 2), api.OK},
		{add, of(1, 2), of(-1, 2), of(0, 1), api.OK},
		{add, least, least, of(1, 500000), api.OK},
		{add, most, of(-1, 1), of(api.MaxNum-1, 1), api.OK},
		{add, of(api.MaxNum-1, 1), of(1, 1), most, api.OK},
		{add, most, of(1, 1), api.Ratio{}, api.ErrOverflow},
		{add, most, most, api.Ratio{}, api.ErrOverflow},
		{add, of(1, 999983), of(1, 2), api.Ratio{}, api.ErrOverflow},
		{sub, of(1, 2), of(1, 3), of(1, 6), api.OK},
		{sub, of(1, 3), of(1, 2), of(-1, 6), api.OK},
		{sub, of(0, 1), of(2, 3), of(-2, 3), api.OK},
		{sub, most, most, of(0, 1), api.OK},
		{sub, of(-api.MaxNum, 1), of(1, 1), api.Ratio{}, api.ErrOverflow},
		{sub, of(1, api.MaxDen), of(1, api.MaxDen-1), api.Ratio{}, api.ErrOverflow},
		{mul, of(2, 3), of(3, 2), of(1, 1), api.OK},
		{mul, of(-2, 3), of(-3, 4), of(1, 2), api.OK},
		{mul, of(-2, 3), of(0, 1), of(0, 1), api.OK},
		{mul, of(api.MaxNum-1, api.MaxDen), of(api.MaxDen, 1), of(api.MaxNum-1, 1), api.OK},
		{mul, most, least, of(1000000, 1), api.OK},
		{mul, most, of(1, 1), most, api.OK},
		{mul, most, of(-1, 1), of(-api.MaxNum, 1), api.OK},
		{mul, of(500000000000, 1), of(2, 1), most, api.OK},
		{mul, of(500000000001, 1), of(2, 1), api.Ratio{}, api.ErrOverflow},
		{mul, most, most, api.Ratio{}, api.ErrOverflow},
		{mul, most, of(-api.MaxNum, 1), api.Ratio{}, api.ErrOverflow},
		{mul, of(1<<31, 1), of(1<<32, 1), api.Ratio{}, api.ErrOverflow}, // 2^63
		{mul, of(1<<32, 1), of(1<<32, 1), api.Ratio{}, api.ErrOverflow}, // 2^64
		{mul, of(-1<<32, 1), of(1<<32, 3), api.Ratio{}, api.ErrOverflow},
		{mul, least, least, api.Ratio{}, api.ErrOverflow},
		{mul, of(1, 1000), of(1, 1000), least, api.OK},
		{mul, of(1, 1000), of(1, 1001), api.Ratio{}, api.ErrOverflow},
		{div, of(1, 2), of(3, 4), of(2, 3), api.OK},
		{div, of(1, 2), of(-3, 4), of(-2, 3), api.OK},
		{div, of(-1, 2), of(-3, 4), of(2, 3), api.OK},
		{div, of(0, 1), of(-3, 4), of(0, 1), api.OK},
		{div, most, most, of(1, 1), api.OK},
		{div, of(1, 1), of(api.MaxDen, 1), least, api.OK},
		{div, of(1, 1), of(api.MaxDen+1, 1), api.Ratio{}, api.ErrOverflow},
		{div, of(1, 1), least, of(api.MaxDen, 1), api.OK},
		{div, most, least, api.Ratio{}, api.ErrOverflow},
		{div, least, most, api.Ratio{}, api.ErrOverflow},
		{div, of(0, 1), of(0, 1), api.Ratio{}, api.ErrZero},
		{div, of(5, 3), of(0, 1), api.Ratio{}, api.ErrZero},
		{div, most, of(0, 1), api.Ratio{}, api.ErrZero},
	} {
		if got, err := c.call(c.a, c.b); got != c.want || err != c.err {
			t.Errorf("case %d: %v, %v gives %v, %v, want %v, %v", i, c.a, c.b, got, err, c.want, c.err)
		}
	}
}

func TestDivisionByZero(t *testing.T) {
	for _, a := range valid() {
		if got, err := ratio.Div(a, of(0, 1)); got != (api.Ratio{}) || err != api.ErrZero {
			t.Errorf("Div(%v, 0) is %v, %v", a, got, err)
		}
	}
}

func TestNeg(t *testing.T) {
	for _, a := range valid() {
		if got, err := ratio.Neg(a); got != of(-a.Num, a.Den) || err != api.OK {
			t.Errorf("Neg(%v) is %v, %v", a, got, err)
		}
	}
	for _, a := range invalid() {
		if got, err := ratio.Neg(a); got != (api.Ratio{}) || err != api.ErrInvalid {
			t.Errorf("Neg(%v) is %v, %v", a, got, err)
		}
	}
}

// An operand that is not valid comes before a division by zero and an overflow.
func TestArithmeticOfInvalidFractions(t *testing.T) {
	others := append(invalid(), of(0, 1), of(1, 1), of(-3, 2), of(api.MaxNum, 1), of(1, api.MaxDen))
	for _, o := range operations() {
		for _, bad := range invalid() {
			for _, other := range others {
				for _, p := range [][2]api.Ratio{{bad, other}, {other, bad}} {
					if got, err := o.call(p[0], p[1]); got != (api.Ratio{}) || err != api.ErrInvalid {
						t.Errorf("%s(%v, %v) is %v, %v", o.name, p[0], p[1], got, err)
					}
				}
			}
		}
	}
}

// P1.3

func TestCompare(t *testing.T) {
	for _, a := range valid() {
		for _, b := range valid() {
			if got, want := ratio.Compare(a, b), exact(a).Cmp(exact(b)); got != want {
				t.Fatalf("Compare(%v, %v) is %d, want %d", a, b, got, want)
			}
		}
	}
	for _, c := range []struct {
		a, b api.Ratio
		want int
	}{
		{of(1, 3), of(1, 2), -1},
		{of(1, 2), of(1, 3), 1},
		{of(1, 2), of(1, 2), 0},
		{of(-1, 2), of(-1, 3), -1},
		{of(-1, 2), of(0, 1), -1},
		{of(999999999989, api.MaxDen-1), of(999999999989, api.MaxDen), 1},
		{of(-api.MaxNum, 1), of(api.MaxNum, 1), -1},
	} {
		if got := ratio.Compare(c.a, c.b); got != c.want {
			t.Errorf("Compare(%v, %v) is %d, want %d", c.a, c.b, got, c.want)
		}
	}
	for _, bad := range invalid() {
		for _, other := range append(invalid(), of(0, 1), of(5, 1), of(-5, 3)) {
			if ratio.Compare(bad, other) != 0 || ratio.Compare(other, bad) != 0 {
				t.Errorf("Compare orders %v and %v", bad, other)
			}
		}
	}
}

func TestFloor(t *testing.T) {
	for _, r := range valid() {
		want := new(big.Int).Div(big.NewInt(int64(r.Num)), big.NewInt(int64(r.Den)))
		if got := ratio.Floor(r); int64(got) != want.Int64() {
			t.Errorf("Floor(%v) is %d, want %v", r, got, want)
		}
	}
	for r, want := range map[api.Ratio]int{
		of(0, 1): 0, of(7, 1): 7, of(-7, 1): -7, of(7, 2): 3, of(-7, 2): -4, of(1, 2): 0, of(-1, 2): -1,
		of(1, api.MaxDen): 0, of(-1, api.MaxDen): -1, of(api.MaxNum, 1): api.MaxNum, of(-api.MaxNum, 1): -api.MaxNum,
		of(api.MaxNum-1, api.MaxDen): 999999, of(1-api.MaxNum, api.MaxDen): -1000000,
	} {
		if got := ratio.Floor(r); got != want {
			t.Errorf("Floor(%v) is %d, want %d", r, got, want)
		}
	}
	for _, r := range append(invalid(), of(4, 2), of(-7, -2), of(7, 0)) {
		if got := ratio.Floor(r); got != 0 {
			t.Errorf("Floor(%v) is %d", r, got)
		}
	}
}

// P1.4

func TestFormat(t *testing.T) {
	for r, want := range map[api.Ratio]string{
		of(0, 1): "0", of(7, 1): "7", of(-7, 1): "-7", of(-3, 2): "-3/2", of(3, 2): "3/2", of(10, 3): "10/3",
		of(api.MaxNum, 1): "1000000000000", of(-api.MaxNum, 1): "-1000000000000",
		of(1, api.MaxDen): "1/1000000", of(1-api.MaxNum, api.MaxDen): "-999999999999/1000000",
	} {
		if got := ratio.Format(r); got != want {
			t.Errorf("Format(%v) is %q, want %q", r, got, want)
		}
	}
	for _, r := range valid() {
		want := strings.TrimSuffix(exact(r).String(), "/1")
		if got := ratio.Format(r); got != want {
			t.Errorf("Format(%v) is %q, want %q", r, got, want)
		}
	}
	for _, r := range invalid() {
		if got := ratio.Format(r); got != "" {
			t.Errorf("Format(%v) is %q", r, got)
		}
	}
}

func TestParseOfFormat(t *testing.T) {
	for _, r := range valid() {
		if got, ok := ratio.Parse(ratio.Format(r)); !ok || got != r {
			t.Errorf("Parse(%q) is %v, %v", ratio.Format(r), got, ok)
		}
	}
}

func TestParseExamples(t *testing.T) {
	for s, want := range map[string]api.Ratio{
		"0": of(0, 1), "7": of(7, 1), "-7": of(-7, 1), "-3/2": of(-3, 2), "10/3": of(10, 3), "1/1000000": of(1, api.MaxDen),
		"1000000000000": of(api.MaxNum, 1), "-1000000000000": of(-api.MaxNum, 1), "-999999999999/1000000": of(1-api.MaxNum, api.MaxDen),
	} {
		if got, ok := ratio.Parse(s); !ok || got != want {
			t.Errorf("Parse(%q) is %v, %v, want %v", s, got, ok, want)
		}
	}
	for _, s := range []string{
		"", "-", "+", "/", "//", "2/4", "+1", "3/1", "-0", "+0", "00", "01", "-01", "1/02", "0/1", "0/2", "-0/2", "2/2",
		"1/", "/2", "-/2", "1/0", "0/0", "1/-2", "-1/-2", "1/+2", "--1", "1-", "1//2", "1/2/", "/1/2", "1/2/3",
		" 1", "1 ", "1 /2", "1/ 2", "1\n", "1_0", "1/1_0", "0x1", "0b1", "1.0", "1.5", "1,000", "1e3", "1e3/2", "a", "inf", "\x00", "1\x00", "\xff",
		"1000000000001", "-1000000000001", "1/1000001", "1000000000001/2", "-1000000000001/1000000", "1000000000000/1000000",
		"9223372036854775807", "9223372036854775808", "-9223372036854775808", "-9223372036854775809", "1/9223372036854775808",
		"18446744073709551615", "18446744073709551616", "18446744073709551617", "1/18446744073709551618", "3/18446744073709551618",
		"\u0661", "\u0661/\u0662", "\uff11", "1\u20442", "\u22121", strings.Repeat("0", 100) + "1", strings.Repeat("1", 100), "1/" + strings.Repeat("9", 100),
	} {
		if got, ok := ratio.Parse(s); ok || got != (api.Ratio{}) {
			t.Errorf("Parse(%q) is %v, %v", s, got, ok)
		}
	}
}

// Every string of up to five of these bytes is accepted exactly if it has the
// form of a fraction and the fraction is in lowest terms.
func TestParseOfAllShortStrings(t *testing.T) {
	const bytes = "-+/0123 "
	form := regexp.MustCompile(`^(0|-?[1-9][0-9]*)(/[1-9][0-9]*)?$`)
	var check func(s string, more int)
	check = func(s string, more int) {
		got, ok := ratio.Parse(s)
		var want api.Ratio
		wanted := false
		if form.MatchString(s) {
			x, _ := new(big.Rat).SetString(s)
			if wanted = strings.TrimSuffix(x.String(), "/1") == s; wanted {
				want = of(int(x.Num().Int64()), int(x.Denom().Int64()))
			}
		}
		if ok != wanted || got != want {
			t.Errorf("Parse(%q) is %v, %v, want %v, %v", s, got, ok, want, wanted)
		}
		if more > 0 {
			for i := range len(bytes) {
				check(s+bytes[i:i+1], more-1)
			}
		}
	}
	check("", 5)
}

// The consequence of the chapter: the laws of arithmetic hold as equality.
func TestLaws(t *testing.T) {
	small := valid()[:40]
	for _, a := range small {
		for _, b := range small {
			sum, _ := ratio.Add(a, b)
			if back, err := ratio.Sub(sum, b); back != a || err != api.OK {
				t.Errorf("(%v + %v) - %v is %v, %v", a, b, b, back, err)
			}
			for _, c := range small {
				x, _ := ratio.Mul(sum, c)
				p, _ := ratio.Mul(a, c)
				q, _ := ratio.Mul(b, c)
				if y, err := ratio.Add(p, q); x != y || err != api.OK {
					t.Errorf("(%v + %v) * %v is %v and %v, %v", a, b, c, x, y, err)
				}
			}
		}
	}
}
