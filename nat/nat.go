// Package nat is layer 1: natural numbers. See shared/doc/01-nat.md.
package nat

import (
	"math/bits"

	"algebrist/api"
)

// maxShift is the greatest number of places by which Shl and Shr move.
const maxShift = 100000

// Right: may it be?
func Right(a []uint32) bool { return len(a) == 0 || a[len(a)-1] != 0 }

// Of: a number.
func Of(n uint64) []uint32 {
	return trim([]uint32{uint32(n), uint32(n >> 32)})
}

// Uint: as a number of 64 bits.
func Uint(a []uint32) (uint64, bool) {
	switch len(a) {
	case 0:
		return 0, true
	case 1:
		return uint64(a[0]), true
	case 2:
		return uint64(a[1])<<32 | uint64(a[0]), true
	}
	return 0, false
}

// Len: how many bits.
func Len(a []uint32) int {
	if len(a) == 0 {
		return 0
	}
	return 32*(len(a)-1) + bits.Len32(a[len(a)-1])
}

// Cmp: below, as, above.
func Cmp(a, b []uint32) int {
	if len(a) != len(b) {
		if len(a) < len(b) {
			return -1
		}
		return 1
	}
	for i := len(a) - 1; i >= 0; i-- {
		if a[i] != b[i] {
			if a[i] < b[i] {
				return -1
			}
			return 1
		}
	}
	return 0
}

// Add: a sum.
func Add(a, b []uint32) []uint32 {
	if len(a) < len(b) {
		a, b = b, a
	}
	sum := make([]uint32, len(a)+1)
	var carry uint64
	for i, x := range a {
		carry += uint64(x)
		if i < len(b) {
			carry += uint64(b[i])
		}
		sum[i] = uint32(carry)
		carry >>= 32
	}
	sum[len(a)] = uint32(carry)
	return trim(sum)
}

// Sub: a difference.
func Sub(a, b []uint32) ([]uint32, bool) {
	if Cmp(a, b) < 0 {
		return nil, false
	}
	rest := make([]uint32, len(a))
	var borrow uint64
	for i, x := range a {
		d := uint64(x) - borrow
		if i < len(b) {
			d -= uint64(b[i])
		}
		rest[i] = uint32(d)
		borrow = d >> 63
	}
	return trim(rest), true
}

// Mul: a product.
func Mul(a, b []uint32) []uint32 {
	if len(a) == 0 || len(b) == 0 {
		return nil
	}
	if len(a) <= 2 && len(b) <= 2 {
		return mulShort(a, b)
	}
	return unpack(mulWords(pack(a), pack(b)))
}

// DivMod: a quotient, and a rest.
func DivMod(a, b []uint32) (q, r []uint32, ok bool) {
	if len(b) == 0 {
		return nil, nil, false
	}
	if Cmp(a, b) < 0 {
		return nil, trim(append([]uint32(nil), a...)), true
	}
	if len(a) <= 2 {
		x, _ := Uint(a)
		y, _ := Uint(b)
		return Of(x / y), Of(x % y), true
	}
	quo, rest := divWords(pack(a), pack(b))
	return unpack(quo), unpack(rest), true
}

// Shl: times a power of two.
func Shl(a []uint32, n int) []uint32 {
	if n < 0 || n > maxShift || len(a) == 0 {
		return nil
	}
	limbs, rest := n/32, uint(n%32)
	out := make([]uint32, limbs+len(a)+1)
	for i, x := range a {
		wide := uint64(x) << rest
		out[limbs+i] |= uint32(wide)
		out[limbs+i+1] = uint32(wide >> 32)
	}
	return trim(out)
}

// Shr: divided by one.
func Shr(a []uint32, n int) []uint32 {
	if n < 0 || n > maxShift || n/32 >= len(a) {
		return nil
	}
	limbs, rest := n/32, uint(n%32)
	out := make([]uint32, len(a)-limbs)
	for i := range out {
		wide := uint64(a[limbs+i])
		if limbs+i+1 < len(a) {
			wide |= uint64(a[limbs+i+1]) << 32
		}
		out[i] = uint32(wide >> rest)
	}
	return trim(out)
}

// Pow: a power.
func Pow(a []uint32, n int) []uint32 {
	if n < 0 || n > api.MaxPower {
		return nil
	}
	out := []uint32{1}
	for k := bits.Len(uint(n)) - 1; k >= 0; k-- {
		out = Mul(out, out)
		if n>>uint(k)&1 == 1 {
			out = Mul(out, a)
		}
	}
	return trim(out)
}

// trim takes the noughts from the top, and cuts the spare room off, so that whoever appends to an answer gets memory of his own.
func trim(a []uint32) []uint32 {
	n := len(a)
	for n > 0 && a[n-1] == 0 {
		n--
	}
	return a[:n:n]
}
