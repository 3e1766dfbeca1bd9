package exact

import "math/bits"

func cmpWords(a, b []uint32) int {
	switch {
	case len(a) < len(b):
		return -1
	case len(a) > len(b):
		return 1
	}
	for i := len(a) - 1; i >= 0; i-- {
		switch {
		case a[i] < b[i]:
			return -1
		case a[i] > b[i]:
			return 1
		}
	}
	return 0
}

func addWords(a, b []uint32) []uint32 {
	if len(a) < len(b) {
		a, b = b, a
	}
	w := make([]uint32, len(a)+1)
	var carry uint64
	for i := range a {
		t := uint64(a[i]) + carry
		if i < len(b) {
			t += uint64(b[i])
		}
		w[i], carry = uint32(t), t>>32
	}
	w[len(a)] = uint32(carry)
	return w
}

// subWords returns a - b, where a is not less than b.
func subWords(a, b []uint32) []uint32 {
	w := make([]uint32, len(a))
	var borrow uint64
	for i := range a {
		t := uint64(a[i]) - borrow
		if i < len(b) {
			t -= uint64(b[i])
		}
		w[i], borrow = uint32(t), t>>63
	}
	return w
}

func mulWords(a, b []uint32) []uint32 {
	w := make([]uint32, len(a)+len(b))
	for i, x := range a {
		var carry uint64
		for j, y := range b {
			t := uint64(x)*uint64(y) + uint64(w[i+j]) + carry
			w[i+j], carry = uint32(t), t>>32
		}
		w[i+len(b)] = uint32(carry)
	}
	return w
}

// divWords returns the quotient and the remainder of a by b, which is not empty.
func divWords(a, b []uint32) ([]uint32, []uint32) {
	if cmpWords(a, b) < 0 {
		return nil, append([]uint32(nil), a...)
	}
	if len(b) == 1 {
		q := make([]uint32, len(a))
		var rem uint64
		for i := len(a) - 1; i >= 0; i-- {
			t := rem<<32 | uint64(a[i])
			q[i], rem = uint32(t/uint64(b[0])), t%uint64(b[0])
		}
		return trim(q), wordsOf(rem)
	}
	return longDivision(a, b)
}

// longDivision is Knuth's algorithm D: both numbers are shifted so that the divisor's first bit is set.
func longDivision(a, b []uint32) ([]uint32, []uint32) {
	shift := uint(bits.LeadingZeros32(b[len(b)-1]))
	d := shiftLeft(b, shift)[:len(b)]
	u := shiftLeft(a, shift)
	n, m := len(b), len(a)-len(b)
	q := make([]uint32, m+1)
	for j := m; j >= 0; j-- {
		q[j] = quotientWord(u[j:j+n+1], d)
	}
	return trim(q), trim(shiftRight(u[:n], shift))
}

// quotientWord subtracts the greatest multiple of d from u, which has one word more, and returns the factor.
func quotientWord(u, d []uint32) uint32 {
	n := len(d)
	top := uint64(u[n])<<32 | uint64(u[n-1])
	q, r := top/uint64(d[n-1]), top%uint64(d[n-1])
	for q>>32 != 0 || q*uint64(d[n-2]) > r<<32|uint64(u[n-2]) {
		q--
		r += uint64(d[n-1])
		if r>>32 != 0 {
			break
		}
	}
	var borrow, carry uint64
	for i := range d {
		p := q*uint64(d[i]) + carry
		carry = p >> 32
		t := uint64(u[i]) - (p & 0xffffffff) - borrow
		u[i], borrow = uint32(t), t>>63
	}
	t := uint64(u[n]) - carry - borrow
	u[n] = uint32(t)
	if t>>63 == 0 {
		return uint32(q)
	}
	carry = 0
	for i := range d {
		s := uint64(u[i]) + uint64(d[i]) + carry
		u[i], carry = uint32(s), s>>32
	}
	u[n] += uint32(carry)
	return uint32(q - 1)
}

func shiftLeft(a []uint32, s uint) []uint32 {
	w := make([]uint32, len(a)+1)
	var carry uint32
	for i, x := range a {
		t := uint64(x) << s
		w[i], carry = uint32(t)|carry, uint32(t>>32)
	}
	w[len(a)] = carry
	return w
}

func shiftRight(a []uint32, s uint) []uint32 {
	w := make([]uint32, len(a))
	for i := range a {
		t := uint64(a[i])
		if i+1 < len(a) {
			t |= uint64(a[i+1]) << 32
		}
		w[i] = uint32(t >> s)
	}
	return w
}
