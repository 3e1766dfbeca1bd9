// Package number is layer 1: exact integers and rational numbers as strings in canonical form.
package number

import (
	"strings"

	"chcsolver/exact"
)

// Valid reports whether a is the canonical form of a number.
func Valid(a string) bool {
	_, is := exact.Parse(a)
	return is
}

// IsInt reports whether a is the canonical form of an integer.
func IsInt(a string) bool {
	x, is := exact.Parse(a)
	return is && x.IsInt()
}

// FromInt returns the canonical form of n.
func FromInt(n int) string { return exact.FromInt64(int64(n)).String() }

// Int returns the integer that a represents, if it fits into an int.
func Int(a string) (int, bool) {
	x, is := exact.Parse(a)
	if !is || !x.IsInt() {
		return 0, false
	}
	if n, small := x.Num().IsSmall(); small {
		return int(n), true
	}
	if least := -1 << 63; a == FromInt(least) {
		return least, true
	}
	return 0, false
}

// Parse reads decimal notation.
func Parse(s string) (string, bool) {
	whole, part, point := strings.Cut(s, ".")
	if point && (part == "" || part[0] == '-') {
		return "", false
	}
	if d := strings.TrimPrefix(whole, "-"); d == "" || d[0] == '-' {
		return "", false
	}
	n, is := exact.ParseInt(whole + part)
	if !is {
		return "", false
	}
	scale, _ := exact.ParseInt("1" + strings.Repeat("0", len(part)))
	return exact.Quotient(n, scale).String(), true
}

// Num returns the numerator of a.
func Num(a string) string {
	return unary(a, func(x exact.Rat) exact.Rat { return exact.FromInt(x.Num()) })
}

// Den returns the denominator of a, which is positive.
func Den(a string) string {
	return unary(a, func(x exact.Rat) exact.Rat { return exact.FromInt(x.Den()) })
}

// Sign returns the sign of a, and 0 for an invalid string.
func Sign(a string) int {
	x, _ := exact.Parse(a)
	return x.Sign()
}

// Cmp compares two numbers; it returns 0 if one of the strings is invalid.
func Cmp(a, b string) int {
	x, y, is := pair(a, b)
	if !is {
		return 0
	}
	return x.Cmp(y)
}

// Neg returns the negative of a.
func Neg(a string) string { return unary(a, exact.Rat.Neg) }

// Abs returns the absolute value of a.
func Abs(a string) string { return unary(a, exact.Rat.Abs) }

// Floor returns the greatest integer that is not greater than a.
func Floor(a string) string {
	return unary(a, func(x exact.Rat) exact.Rat { return exact.FromInt(x.Floor()) })
}

// Ceil returns the least integer that is not less than a.
func Ceil(a string) string {
	return unary(a, func(x exact.Rat) exact.Rat { return exact.FromInt(x.Ceil()) })
}

// Add returns the sum.
func Add(a, b string) string { return binary(a, b, exact.Rat.Add) }

// Sub returns the difference.
func Sub(a, b string) string { return binary(a, b, exact.Rat.Sub) }

// Mul returns the product.
func Mul(a, b string) string { return binary(a, b, exact.Rat.Mul) }

// Div returns the quotient, and the empty string if b is 0.
func Div(a, b string) string {
	if b == "0" {
		return ""
	}
	return binary(a, b, exact.Rat.Div)
}

// Quo returns the quotient of integers for which the remainder is not negative.
func Quo(a, b string) string {
	q, _ := divide(a, b)
	return q
}

// Rem returns the remainder of integers, which is not negative.
func Rem(a, b string) string {
	_, r := divide(a, b)
	return r
}

// Gcd returns the greatest common divisor of two integers.
func Gcd(a, b string) string {
	x, y, is := integers(a, b)
	if !is {
		return ""
	}
	return exact.Gcd(x, y).String()
}

// Lcm returns the least common multiple of two integers.
func Lcm(a, b string) string {
	x, y, is := integers(a, b)
	if !is {
		return ""
	}
	if x.IsZero() || y.IsZero() {
		return "0"
	}
	q, _ := x.QuoRem(exact.Gcd(x, y))
	return q.Mul(y).Abs().String()
}

// Sum returns the sum of all numbers.
func Sum(l ...string) string {
	var sum exact.Rat
	for _, s := range l {
		x, is := exact.Parse(s)
		if !is {
			return ""
		}
		sum = sum.Add(x)
	}
	return sum.String()
}

// Min returns the least of the numbers.
func Min(l ...string) string { return extreme(l, -1) }

// Max returns the greatest of the numbers.
func Max(l ...string) string { return extreme(l, 1) }

func extreme(l []string, side int) string {
	var best exact.Rat
	for i, s := range l {
		x, is := exact.Parse(s)
		if !is {
			return ""
		}
		if i == 0 || x.Cmp(best) == side {
			best = x
		}
	}
	if len(l) == 0 {
		return ""
	}
	return best.String()
}

func pair(a, b string) (exact.Rat, exact.Rat, bool) {
	x, is := exact.Parse(a)
	y, both := exact.Parse(b)
	return x, y, is && both
}

func integers(a, b string) (exact.Int, exact.Int, bool) {
	x, y, is := pair(a, b)
	return x.Num(), y.Num(), is && x.IsInt() && y.IsInt()
}

func divide(a, b string) (string, string) {
	x, y, is := integers(a, b)
	if !is || y.IsZero() {
		return "", ""
	}
	q, r := x.QuoRem(y)
	return q.String(), r.String()
}

func unary(a string, f func(exact.Rat) exact.Rat) string {
	x, is := exact.Parse(a)
	if !is {
		return ""
	}
	return f(x).String()
}

func binary(a, b string, f func(x, y exact.Rat) exact.Rat) string {
	x, y, is := pair(a, b)
	if !is {
		return ""
	}
	return f(x, y).String()
}
