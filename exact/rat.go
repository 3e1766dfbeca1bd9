package exact

import "strings"

// Rat is a rational number in lowest terms. Values are never changed; the zero value is 0.
type Rat struct {
	num Int
	den Int // 0 stands for 1, so that the zero value is a number
}

// One returns the number 1.
func One() Rat { return Rat{num: FromInt64(1)} }

// FromInt returns the number a.
func FromInt(a Int) Rat { return Rat{num: a} }

// Small returns the number n.
func Small(n int) Rat { return Rat{num: FromInt64(int64(n))} }

// Num returns the numerator.
func (a Rat) Num() Int { return a.num }

// Den returns the denominator, which is positive.
func (a Rat) Den() Int {
	if a.den.IsZero() {
		return FromInt64(1)
	}
	return a.den
}

// IsInt reports whether a is an integer.
func (a Rat) IsInt() bool { return a.den.IsZero() }

// Sign returns -1, 0 or 1.
func (a Rat) Sign() int { return a.num.Sign() }

// IsZero reports whether a is 0.
func (a Rat) IsZero() bool { return a.num.IsZero() }

// Quotient returns n / d in lowest terms. d is not 0.
func Quotient(n, d Int) Rat {
	if d.Sign() < 0 {
		n, d = n.Neg(), d.Neg()
	}
	if d.IsOne() {
		return Rat{num: n}
	}
	if g := Gcd(n, d); !g.IsOne() {
		n, _ = n.QuoRem(g)
		d, _ = d.QuoRem(g)
	}
	if d.IsOne() {
		return Rat{num: n}
	}
	return Rat{num: n, den: d}
}

// Neg returns -a.
func (a Rat) Neg() Rat { return Rat{num: a.num.Neg(), den: a.den} }

// Abs returns the absolute value of a.
func (a Rat) Abs() Rat { return Rat{num: a.num.Abs(), den: a.den} }

// Add returns a + b.
func (a Rat) Add(b Rat) Rat {
	if a.IsInt() && b.IsInt() {
		return Rat{num: a.num.Add(b.num)}
	}
	return Quotient(a.num.Mul(b.Den()).Add(b.num.Mul(a.Den())), a.Den().Mul(b.Den()))
}

// Sub returns a - b.
func (a Rat) Sub(b Rat) Rat { return a.Add(b.Neg()) }

// Mul returns a * b.
func (a Rat) Mul(b Rat) Rat {
	if a.IsInt() && b.IsInt() {
		return Rat{num: a.num.Mul(b.num)}
	}
	return Quotient(a.num.Mul(b.num), a.Den().Mul(b.Den()))
}

// Div returns a / b. b is not 0.
func (a Rat) Div(b Rat) Rat { return Quotient(a.num.Mul(b.Den()), a.Den().Mul(b.num)) }

// Cmp returns -1, 0 or 1 if a is less than, equal to or greater than b.
func (a Rat) Cmp(b Rat) int {
	if a.IsInt() && b.IsInt() {
		return a.num.Cmp(b.num)
	}
	return a.num.Mul(b.Den()).Cmp(b.num.Mul(a.Den()))
}

// Floor returns the greatest integer that is not greater than a.
func (a Rat) Floor() Int {
	if a.IsInt() {
		return a.num
	}
	q, _ := a.num.QuoRem(a.den)
	return q
}

// Ceil returns the least integer that is not less than a.
func (a Rat) Ceil() Int { return a.Neg().Floor().Neg() }

// String returns the canonical form of a.
func (a Rat) String() string {
	if a.IsInt() {
		return a.num.String()
	}
	return a.num.String() + "/" + a.den.String()
}

// Parse reads a canonical form.
func Parse(s string) (Rat, bool) {
	n, d, slash := strings.Cut(s, "/")
	num, is := canonicalInt(n)
	if !is || !slash {
		return Rat{num: num}, is
	}
	den, is := canonicalInt(d)
	if !is || den.Sign() <= 0 || den.IsOne() || num.IsZero() || !Gcd(num, den).IsOne() {
		return Rat{}, false
	}
	return Rat{num: num, den: den}, true
}

// Must returns the number of a canonical form, and 0 for other strings.
func Must(s string) Rat {
	a, _ := Parse(s)
	return a
}

func canonicalInt(s string) (Int, bool) {
	digits := strings.TrimPrefix(s, "-")
	if digits == "" || digits[0] == '0' && s != "0" {
		return Int{}, false
	}
	return ParseInt(s)
}
