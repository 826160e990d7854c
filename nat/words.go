package nat

import "math/bits"

// Inside, long numbers are worked on in words of 64 bits, two limbs each: a quarter of the steps.

// karatsuba is the least length, in words, at which three shorter products are quicker than four.
const karatsuba = 40

func pack(a []uint32) []uint64 {
	out := make([]uint64, (len(a)+1)/2)
	for i, x := range a {
		out[i/2] |= uint64(x) << uint(i%2*32)
	}
	return out
}

func unpack(a []uint64) []uint32 {
	out := make([]uint32, 2*len(a))
	for i, x := range a {
		out[2*i] = uint32(x)
		out[2*i+1] = uint32(x >> 32)
	}
	return trim(out)
}

// mulShort is the product of two numbers of at most two limbs each.
func mulShort(a, b []uint32) []uint32 {
	x, _ := Uint(a)
	y, _ := Uint(b)
	hi, lo := bits.Mul64(x, y)
	if hi == 0 {
		return Of(lo)
	}
	return trim([]uint32{uint32(lo), uint32(lo >> 32), uint32(hi), uint32(hi >> 32)})
}

// mulWords is a product of len(a)+len(b) words.
func mulWords(a, b []uint64) []uint64 {
	out := make([]uint64, len(a)+len(b))
	if len(a) < len(b) {
		a, b = b, a
	}
	if len(b) < karatsuba {
		mulSchool(out, a, b)
		return out
	}
	// Pieces of a as long as b keep the halves alike.
	for i := 0; i < len(a); i += len(b) {
		piece := a[i:min(i+len(b), len(a))]
		addInto(out[i:], mulEven(piece, b))
	}
	return out
}

// mulEven is a product of two numbers of about the same length.
func mulEven(a, b []uint64) []uint64 {
	n := max(len(a), len(b))
	half := (n + 1) / 2
	if min(len(a), len(b)) <= half || n < karatsuba {
		out := make([]uint64, len(a)+len(b))
		mulSchool(out, a, b)
		return out
	}
	low := mulEven(a[:half], b[:half])
	high := mulEven(a[half:], b[half:])
	mid := mulEven(sumWords(a[:half], a[half:]), sumWords(b[:half], b[half:]))
	subFrom(mid, low)
	subFrom(mid, high)
	out := make([]uint64, len(a)+len(b))
	addInto(out, low)
	addInto(out[2*half:], high)
	addInto(out[half:], mid)
	return out
}

// mulSchool adds the product of a and b to out, which is long enough.
func mulSchool(out, a, b []uint64) {
	for j, y := range b {
		if y == 0 {
			continue
		}
		var carry uint64
		row := out[j : j+len(a)+1]
		for i, x := range a {
			hi, lo := bits.Mul64(x, y)
			var c uint64
			lo, c = bits.Add64(lo, row[i], 0)
			hi += c
			row[i], c = bits.Add64(lo, carry, 0)
			carry = hi + c
		}
		row[len(a)] += carry
	}
}

func sumWords(a, b []uint64) []uint64 {
	out := make([]uint64, max(len(a), len(b))+1)
	copy(out, a)
	addInto(out, b)
	return out
}

// addInto adds b to a in its place; the sum is no longer than a, whatever noughts b has at its top.
func addInto(a, b []uint64) {
	var carry uint64
	for i := 0; i < len(b) || carry != 0; i++ {
		if i >= len(a) {
			return
		}
		var y uint64
		if i < len(b) {
			y = b[i]
		}
		a[i], carry = bits.Add64(a[i], y, carry)
	}
}

// subFrom takes b from a in its place; b isn't above a.
func subFrom(a, b []uint64) {
	var borrow uint64
	for i := 0; i < len(b) || borrow != 0; i++ {
		if i >= len(a) {
			return
		}
		var y uint64
		if i < len(b) {
			y = b[i]
		}
		a[i], borrow = bits.Sub64(a[i], y, borrow)
	}
}

// divWords divides a by b, which isn't above a, and isn't 0.
func divWords(a, b []uint64) (q, r []uint64) {
	if len(b) == 1 {
		q = make([]uint64, len(a))
		var rest uint64
		for i := len(a) - 1; i >= 0; i-- {
			q[i], rest = bits.Div64(rest, a[i], b[0])
		}
		return q, []uint64{rest}
	}
	shift := uint(bits.LeadingZeros64(b[len(b)-1]))
	v := shiftUp(b, shift)[:len(b)]
	u := shiftUp(a, shift)
	q = make([]uint64, len(a)-len(b)+1)
	for j := len(q) - 1; j >= 0; j-- {
		q[j] = divStep(u[j:j+len(v)+1], v)
	}
	return q, shiftDown(u[:len(v)], shift)
}

// divStep takes as many v from u as there are in it, and says how many; u has one word more than v, whose top bit is set.
func divStep(u, v []uint64) uint64 {
	n := len(v)
	digit := guess(u[n], u[n-1], u[n-2], v[n-1], v[n-2])
	if digit == 0 {
		return 0
	}
	var carry, borrow uint64
	for i, y := range v {
		hi, lo := bits.Mul64(digit, y)
		var c uint64
		lo, c = bits.Add64(lo, carry, 0)
		carry = hi + c
		u[i], borrow = bits.Sub64(u[i], lo, borrow)
	}
	u[n], borrow = bits.Sub64(u[n], carry, borrow)
	if borrow == 0 {
		return digit
	}
	// The guess is at most one too great here.
	var c uint64
	for i, y := range v {
		u[i], c = bits.Add64(u[i], y, c)
	}
	u[n] += c
	return digit - 1
}

// guess is the digit that the three top words of u, and the two of v, tell: right, or one too great.
func guess(u2, u1, u0, v1, v0 uint64) uint64 {
	digit, rest := ^uint64(0), u1+v1
	if u2 < v1 {
		digit, rest = bits.Div64(u2, u1, v1)
	} else if rest < v1 {
		return digit
	}
	for {
		hi, lo := bits.Mul64(digit, v0)
		if hi < rest || hi == rest && lo <= u0 {
			return digit
		}
		digit--
		rest += v1
		if rest < v1 {
			return digit
		}
	}
}

// shiftUp is a times 2^n, n below 64, in one word more.
func shiftUp(a []uint64, n uint) []uint64 {
	out := make([]uint64, len(a)+1)
	for i, x := range a {
		out[i] |= x << n
		out[i+1] = x >> 1 >> (63 - n)
	}
	return out
}

// shiftDown is a divided by 2^n, n below 64.
func shiftDown(a []uint64, n uint) []uint64 {
	out := make([]uint64, len(a))
	for i, x := range a {
		out[i] = x >> n
		if i+1 < len(a) {
			out[i] |= a[i+1] << 1 << (63 - n)
		}
	}
	return out
}
