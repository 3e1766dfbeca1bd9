// Package exact holds integers and rational numbers of any size as values, for the layers that compute much.
package exact

import (
	"math/bits"
	"strconv"
)

// Int is an integer. Values are never changed; the zero value is 0.
// Integers from -(2^63 - 1) to 2^63 - 1 are in small; mag is nil for these.
type Int struct {
	small int64
	neg   bool
	mag   []uint32 // least significant word first, no leading zero words
}

const (
	maxSmall   = 1<<63 - 1
	chunk      = 1000000000
	chunkWidth = 9
)

// FromInt64 returns the integer n.
func FromInt64(n int64) Int {
	if n == -1<<63 {
		return Int{neg: true, mag: []uint32{0, 1 << 31}}
	}
	return Int{small: n}
}

// IsSmall returns the integer as an int64 if it is small.
func (a Int) IsSmall() (int64, bool) { return a.small, a.mag == nil }

// Sign returns -1, 0 or 1.
func (a Int) Sign() int {
	if a.mag != nil {
		if a.neg {
			return -1
		}
		return 1
	}
	switch {
	case a.small < 0:
		return -1
	case a.small > 0:
		return 1
	}
	return 0
}

// IsZero reports whether a is 0.
func (a Int) IsZero() bool { return a.mag == nil && a.small == 0 }

// IsOne reports whether a is 1.
func (a Int) IsOne() bool { return a.mag == nil && a.small == 1 }

func (a Int) parts() (bool, []uint32) {
	if a.mag != nil {
		return a.neg, a.mag
	}
	n := a.small
	neg := n < 0
	if neg {
		n = -n
	}
	return neg, wordsOf(uint64(n))
}

func wordsOf(n uint64) []uint32 {
	switch {
	case n == 0:
		return nil
	case n>>32 == 0:
		return []uint32{uint32(n)}
	}
	return []uint32{uint32(n), uint32(n >> 32)}
}

func trim(w []uint32) []uint32 {
	for len(w) > 0 && w[len(w)-1] == 0 {
		w = w[:len(w)-1]
	}
	return w
}

func fromParts(neg bool, w []uint32) Int {
	w = trim(w)
	if len(w) <= 2 {
		var n uint64
		for i := len(w) - 1; i >= 0; i-- {
			n = n<<32 | uint64(w[i])
		}
		if n <= maxSmall {
			if neg {
				return Int{small: -int64(n)}
			}
			return Int{small: int64(n)}
		}
	}
	return Int{neg: neg, mag: w}
}

// Neg returns -a.
func (a Int) Neg() Int {
	if a.mag == nil {
		return Int{small: -a.small}
	}
	return Int{neg: !a.neg, mag: a.mag}
}

// Abs returns the absolute value of a.
func (a Int) Abs() Int {
	if a.Sign() < 0 {
		return a.Neg()
	}
	return a
}

// Add returns a + b.
func (a Int) Add(b Int) Int {
	if a.mag == nil && b.mag == nil {
		s := a.small + b.small
		if (s > a.small) == (b.small > 0) && s != -1<<63 {
			return Int{small: s}
		}
	}
	an, aw := a.parts()
	bn, bw := b.parts()
	if an == bn {
		return fromParts(an, addWords(aw, bw))
	}
	switch cmpWords(aw, bw) {
	case 1:
		return fromParts(an, subWords(aw, bw))
	case -1:
		return fromParts(bn, subWords(bw, aw))
	}
	return Int{}
}

// Sub returns a - b.
func (a Int) Sub(b Int) Int { return a.Add(b.Neg()) }

// Mul returns a * b.
func (a Int) Mul(b Int) Int {
	if a.mag == nil && b.mag == nil {
		x, y := a.small, b.small
		neg := (x < 0) != (y < 0)
		if x < 0 {
			x = -x
		}
		if y < 0 {
			y = -y
		}
		hi, lo := bits.Mul64(uint64(x), uint64(y))
		if hi == 0 && lo <= maxSmall {
			if neg {
				return Int{small: -int64(lo)}
			}
			return Int{small: int64(lo)}
		}
	}
	an, aw := a.parts()
	bn, bw := b.parts()
	return fromParts(an != bn, mulWords(aw, bw))
}

// Cmp returns -1, 0 or 1 if a is less than, equal to or greater than b.
func (a Int) Cmp(b Int) int {
	if a.mag == nil && b.mag == nil {
		switch {
		case a.small < b.small:
			return -1
		case a.small > b.small:
			return 1
		}
		return 0
	}
	an, aw := a.parts()
	bn, bw := b.parts()
	switch {
	case an && !bn:
		return -1
	case !an && bn:
		return 1
	case an:
		return cmpWords(bw, aw)
	}
	return cmpWords(aw, bw)
}

// QuoRem returns q and r with a = b * q + r and 0 <= r < |b|. b is not 0.
func (a Int) QuoRem(b Int) (Int, Int) {
	if a.mag == nil && b.mag == nil {
		q, r := a.small/b.small, a.small%b.small
		if r < 0 {
			if b.small > 0 {
				q, r = q-1, r+b.small
			} else {
				q, r = q+1, r-b.small
			}
		}
		return Int{small: q}, Int{small: r}
	}
	an, aw := a.parts()
	bn, bw := b.parts()
	qw, rw := divWords(aw, bw)
	q, r := fromParts(an != bn, qw), fromParts(false, rw)
	if an && !r.IsZero() {
		if bn {
			q = q.Add(FromInt64(1))
		} else {
			q = q.Sub(FromInt64(1))
		}
		r = b.Abs().Sub(r)
	}
	return q, r
}

// Gcd returns the greatest common divisor, which is not negative.
func Gcd(a, b Int) Int {
	a, b = a.Abs(), b.Abs()
	for !b.IsZero() {
		if a.mag == nil && b.mag == nil {
			x, y := a.small, b.small
			for y != 0 {
				x, y = y, x%y
			}
			return Int{small: x}
		}
		_, r := a.QuoRem(b)
		a, b = b, r
	}
	return a
}

// ParseInt reads an optional minus sign and digits, of which there is at least one.
func ParseInt(s string) (Int, bool) {
	digits, neg := s, false
	if len(s) > 0 && s[0] == '-' {
		digits, neg = s[1:], true
	}
	if digits == "" {
		return Int{}, false
	}
	for i := 0; i < len(digits); i++ {
		if digits[i] < '0' || digits[i] > '9' {
			return Int{}, false
		}
	}
	if len(digits) <= 18 {
		n, _ := strconv.ParseInt(digits, 10, 64)
		if neg {
			n = -n
		}
		return Int{small: n}, true
	}
	return fromParts(neg, parseWords(digits)), true
}

func parseWords(digits string) []uint32 {
	var w []uint32
	for first := true; digits != ""; first = false {
		n := chunkWidth
		if first && len(digits)%chunkWidth != 0 {
			n = len(digits) % chunkWidth
		}
		v, _ := strconv.ParseUint(digits[:n], 10, 32)
		digits = digits[n:]
		carry := v
		for i := range w {
			t := uint64(w[i])*chunk + carry
			w[i], carry = uint32(t), t>>32
		}
		if carry != 0 {
			w = append(w, uint32(carry))
		}
	}
	return w
}

// String returns the decimal digits of a, with a minus sign if it is negative.
func (a Int) String() string {
	if a.mag == nil {
		return strconv.FormatInt(a.small, 10)
	}
	w := append([]uint32(nil), a.mag...)
	var chunks []uint32
	for len(w) > 0 {
		var rem uint64
		for i := len(w) - 1; i >= 0; i-- {
			t := rem<<32 | uint64(w[i])
			w[i], rem = uint32(t/chunk), t%chunk
		}
		w = trim(w)
		chunks = append(chunks, uint32(rem))
	}
	out := make([]byte, 0, len(chunks)*chunkWidth+1)
	if a.neg {
		out = append(out, '-')
	}
	for i := len(chunks) - 1; i >= 0; i-- {
		d := strconv.Itoa(int(chunks[i]))
		if i < len(chunks)-1 {
			for k := len(d); k < chunkWidth; k++ {
				out = append(out, '0')
			}
		}
		out = append(out, d...)
	}
	return string(out)
}
