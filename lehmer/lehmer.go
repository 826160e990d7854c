// Package lehmer has what makes the gcd of long numbers quick: many of Euclid's steps at once, guessed of the numbers' first words.
package lehmer

import (
	"math/bits"

	"algebrist/api"
)

// Steps are some of Euclid's steps in one: of a and b come u0 a + v0 b and u1 a + v1 b, where, if Even, U1 and V0 are turned, else U0 and V1.
type Steps struct {
	U0, V0, U1, V1 uint64
	Even           bool
}

// Guess tells steps that are right for a and b, a not below b, b of two words at least; none (V0 is 0), if the first words don't say enough.
func Guess(a, b []uint32) Steps { return guess(pack(a), pack(b)) }

// Gcd is the greatest common divisor.
func Gcd(a, b []uint32) []uint32 {
	if len(a) <= 2 && len(b) <= 2 {
		return unpack([]uint64{small(word(a), word(b))})
	}
	x, y := pack(a), pack(b)
	if below(x, y) {
		x, y = y, x
	}
	for len(y) > 1 {
		s := guess(x, y)
		if s.V0 == 0 {
			x, y = y, rest(x, y)
		} else if s.Even {
			x, y = combine(x, s.U0, y, s.V0), combine(y, s.V1, x, s.U1)
		} else {
			x, y = combine(y, s.V0, x, s.U0), combine(x, s.U1, y, s.V1)
		}
	}
	if len(y) == 0 {
		return unpack(x)
	}
	return unpack([]uint64{small(y[0], restWord(x, y[0]))})
}

// GcdInt is that of whole numbers: from 0 on.
func GcdInt(a, b api.Int) api.Int { return api.Int{Mag: Gcd(a.Mag, b.Mag)} }

// guess goes on as long as Collins' condition says that the quotients of the first words are those of the whole numbers.
func guess(a, b []uint64) Steps {
	n, m := len(a), len(b)
	h := uint(bits.LeadingZeros64(a[n-1]))
	top := func(x []uint64) uint64 {
		return x[n-1]<<h | x[n-2]>>1>>(63-h)
	}
	a1, a2 := top(a), uint64(0)
	switch {
	case n == m:
		a2 = top(b)
	case n == m+1:
		a2 = b[n-2] >> 1 >> (63 - h)
	}
	s := Steps{U1: 1}
	u2, v2 := uint64(0), uint64(1)
	for a2 >= v2 && a1-a2 >= s.V1+v2 {
		q := a1 / a2
		a1, a2 = a2, a1%a2
		s.U0, s.U1, u2 = s.U1, u2, s.U1+q*u2
		s.V0, s.V1, v2 = s.V1, v2, s.V1+q*v2
		s.Even = !s.Even
	}
	return s
}

// combine is u a less v b, which isn't below 0.
func combine(a []uint64, u uint64, b []uint64, v uint64) []uint64 {
	n := max(len(a), len(b))
	out := make([]uint64, n)
	var up, down, borrow uint64
	for i := range n {
		var plus, minus uint64
		plus, up = mulAdd(at(a, i), u, up)
		minus, down = mulAdd(at(b, i), v, down)
		out[i], borrow = bits.Sub64(plus, minus, borrow)
	}
	return trim(out)
}

func mulAdd(x, y, carry uint64) (lo, hi uint64) {
	hi, lo = bits.Mul64(x, y)
	lo, c := bits.Add64(lo, carry, 0)
	return lo, hi + c
}

func at(a []uint64, i int) uint64 {
	if i < len(a) {
		return a[i]
	}
	return 0
}

// rest is what is left of a divided by b, of two words at least.
func rest(a, b []uint64) []uint64 {
	h := uint(bits.LeadingZeros64(b[len(b)-1]))
	u, v := shiftUp(a, h), shiftUp(b, h)[:len(b)]
	for j := len(a) - len(b); j >= 0; j-- {
		takeOff(u[j:j+len(v)+1], v)
	}
	out := u[:len(v)]
	for i := range out {
		out[i] = out[i]>>h | at(u, i+1)<<1<<(63-h)
	}
	return trim(out)
}

// takeOff takes v from u, which has one word more, as often as it can.
func takeOff(u, v []uint64) {
	n := len(v)
	q := ^uint64(0)
	if u[n] < v[n-1] {
		q, _ = bits.Div64(u[n], u[n-1], v[n-1])
	}
	var carry, borrow uint64
	for i, y := range v {
		var lo uint64
		lo, carry = mulAdd(q, y, carry)
		u[i], borrow = bits.Sub64(u[i], lo, borrow)
	}
	u[n], borrow = bits.Sub64(u[n], carry, borrow)
	// The quotient of the first words is at most two too great.
	for borrow != 0 {
		var c uint64
		for i, y := range v {
			u[i], c = bits.Add64(u[i], y, c)
		}
		u[n], c = bits.Add64(u[n], 0, c)
		borrow -= c
	}
}

func shiftUp(a []uint64, h uint) []uint64 {
	out := make([]uint64, len(a)+1)
	for i, x := range a {
		out[i] |= x << h
		out[i+1] = x >> 1 >> (63 - h)
	}
	return out
}

func restWord(a []uint64, b uint64) uint64 {
	var r uint64
	for i := len(a) - 1; i >= 0; i-- {
		_, r = bits.Div64(r, a[i], b)
	}
	return r
}

func small(a, b uint64) uint64 {
	for b != 0 {
		a, b = b, a%b
	}
	return a
}

func below(a, b []uint64) bool {
	if len(a) != len(b) {
		return len(a) < len(b)
	}
	for i := len(a) - 1; i >= 0; i-- {
		if a[i] != b[i] {
			return a[i] < b[i]
		}
	}
	return false
}

func word(a []uint32) uint64 {
	var x uint64
	for i := len(a) - 1; i >= 0; i-- {
		x = x<<32 | uint64(a[i])
	}
	return x
}

func pack(a []uint32) []uint64 {
	out := make([]uint64, (len(a)+1)/2)
	for i, x := range a {
		out[i/2] |= uint64(x) << uint(i%2*32)
	}
	return out
}

func unpack(a []uint64) []uint32 {
	out := make([]uint32, 2*len(a))
	for i, x := range a {
		out[2*i] = uint32(x)
		out[2*i+1] = uint32(x >> 32)
	}
	n := len(out)
	for n > 0 && out[n-1] == 0 {
		n--
	}
	return out[:n:n]
}

func trim(a []uint64) []uint64 {
	n := len(a)
	for n > 0 && a[n-1] == 0 {
		n--
	}
	return a[:n]
}
