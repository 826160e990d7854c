// Package signs tells the sign of a polynomial's value at a rational.
package signs

import (
	"algebrist/api"
	"algebrist/frac"
	"algebrist/whole"
)

// At is the sign of f at a: of the value times a power of a's denominator.
func At(f api.ZPoly, a api.Rat) int {
	var sum api.Int
	den := whole.Of(1)
	for i := len(f) - 1; i >= 0; i-- {
		sum = whole.Add(whole.Mul(sum, a.Num), whole.Mul(f[i], den))
		if i > 0 {
			den = whole.Mul(den, a.Den)
		}
	}
	return whole.Sign(sum)
}

// Has says whether f, that has at most one root in an interval, once, and at its ends none, has one there; of a point whether that is one.
func Has(f api.ZPoly, x api.Interval) bool {
	if frac.Same(x.Lo, x.Hi) {
		return At(f, x.Lo) == 0
	}
	return At(f, x.Lo) != At(f, x.Hi)
}
