// Package ratio is layer 1: exact fractions.
//
// A valid fraction is in lowest terms, so equal numbers are equal structs.
package ratio

import (
	"cmp"
	"math/bits"
	"strconv"
	"strings"

	"payroll/api"
)

// Valid reports whether r is in lowest terms and within the limits (P1.1).
func Valid(r api.Ratio) bool {
	if r.Den < 1 || r.Den > api.MaxDen || r.Num < -api.MaxNum || r.Num > api.MaxNum {
		return false
	}
	return divisor(magnitude(r.Num), magnitude(r.Den)) == 1
}

// New returns the valid fraction of num/den, for all integers (P1.1).
func New(num, den int) (api.Ratio, api.Errno) {
	if den == 0 {
		return api.Ratio{}, api.ErrZero
	}
	return fit((num < 0) != (den < 0), magnitude(num), magnitude(den))
}

// Add returns a + b (P1.2). The terms of valid fractions are small enough that
// an int holds their cross products and the sum of two of these.
func Add(a, b api.Ratio) (api.Ratio, api.Errno) {
	if !Valid(a) || !Valid(b) {
		return api.Ratio{}, api.ErrInvalid
	}
	return New(a.Num*b.Den+b.Num*a.Den, a.Den*b.Den)
}

// Sub returns a - b (P1.2).
func Sub(a, b api.Ratio) (api.Ratio, api.Errno) {
	if !Valid(a) || !Valid(b) {
		return api.Ratio{}, api.ErrInvalid
	}
	return New(a.Num*b.Den-b.Num*a.Den, a.Den*b.Den)
}

// Mul returns a * b (P1.2). The product of two numerators can exceed an
// integer even if the result fits, so common divisors are taken out first:
// what remains is in lowest terms, and too great if it has a high word.
func Mul(a, b api.Ratio) (api.Ratio, api.Errno) {
	if !Valid(a) || !Valid(b) {
		return api.Ratio{}, api.ErrInvalid
	}
	x, y := magnitude(a.Num), magnitude(b.Num)
	p, q := magnitude(a.Den), magnitude(b.Den)
	first, second := divisor(x, q), divisor(y, p)
	high, num := bits.Mul64(x/first, y/second)
	if high != 0 {
		return api.Ratio{}, api.ErrOverflow
	}
	return fit((a.Num < 0) != (b.Num < 0), num, (p/second)*(q/first))
}

// Div returns a / b (P1.2).
func Div(a, b api.Ratio) (api.Ratio, api.Errno) {
	if !Valid(a) || !Valid(b) {
		return api.Ratio{}, api.ErrInvalid
	}
	return New(a.Num*b.Den, a.Den*b.Num)
}

// Neg returns -a (P1.2).
func Neg(a api.Ratio) (api.Ratio, api.Errno) {
	if !Valid(a) {
		return api.Ratio{}, api.ErrInvalid
	}
	return api.Ratio{Num: -a.Num, Den: a.Den}, api.OK
}

// Compare orders two valid fractions; it returns 0 if one is not valid (P1.3).
func Compare(a, b api.Ratio) int {
	if !Valid(a) || !Valid(b) {
		return 0
	}
	return cmp.Compare(a.Num*b.Den, b.Num*a.Den)
}

// Floor returns the greatest integer that is not greater than r, and 0 if r is
// not valid (P1.3).
func Floor(r api.Ratio) int {
	if !Valid(r) {
		return 0
	}
	whole := r.Num / r.Den
	if r.Num%r.Den < 0 {
		whole-- // the division of Go truncates toward zero
	}
	return whole
}

// Format writes r, and nothing if r is not valid (P1.4).
func Format(r api.Ratio) string {
	if !Valid(r) {
		return ""
	}
	if r.Den == 1 {
		return strconv.Itoa(r.Num)
	}
	return strconv.Itoa(r.Num) + "/" + strconv.Itoa(r.Den)
}

// Parse reads what Format writes, and nothing else (P1.4). strconv accepts more
// forms of a number than Format writes, so the result is formatted again; that
// refuses fractions that are not valid too, for which Format writes nothing.
func Parse(s string) (api.Ratio, bool) {
	r := api.Ratio{Den: 1}
	var err error
	num, den, slash := strings.Cut(s, "/")
	if r.Num, err = strconv.Atoi(num); err != nil {
		return api.Ratio{}, false
	}
	if slash {
		if r.Den, err = strconv.Atoi(den); err != nil {
			return api.Ratio{}, false
		}
	}
	if Format(r) != s {
		return api.Ratio{}, false
	}
	return r, true
}

// fit reduces a number with a positive denominator to its valid fraction.
func fit(negative bool, num, den uint64) (api.Ratio, api.Errno) {
	d := divisor(num, den)
	num, den = num/d, den/d
	if num > api.MaxNum || den > api.MaxDen {
		return api.Ratio{}, api.ErrOverflow
	}
	r := api.Ratio{Num: int(num), Den: int(den)}
	if negative {
		r.Num = -r.Num
	}
	return r, api.OK
}

// divisor returns the greatest common divisor of a and a positive b.
func divisor(a, b uint64) uint64 {
	for a != 0 {
		a, b = b%a, a
	}
	return b
}

// magnitude returns the absolute value of n; the least integer has one only
// among the unsigned integers.
func magnitude(n int) uint64 {
	if n < 0 {
		return -uint64(n)
	}
	return uint64(n)
}
