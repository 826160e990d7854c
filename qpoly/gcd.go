package qpoly

import (
	"algebrist/api"
	"algebrist/frac"
	"algebrist/powers"
	"algebrist/whole"
	"algebrist/zpoly"
)

// Gcd is the gcd with Bezout's polynomials.
func Gcd(f, g api.QPoly) api.QBezout {
	if len(f) < len(g) {
		w := Gcd(g, f)
		return api.QBezout{G: w.G, U: w.V, V: w.U}
	}
	if len(f) == 0 {
		return api.QBezout{}
	}
	a, c := Clear(f)
	b, _ := Clear(g)
	r, u := remainders(a, b)
	// r = u a + some b, so r by its lead is (u / (c lead)) f + some g.
	scale, _ := frac.Div(frac.Whole(whole.Of(1)), frac.Mul(c, frac.Whole(zpoly.Lead(r))))
	w := api.QBezout{G: Monic(From(r)), U: times(u, scale)}
	if len(g) > 0 {
		w.V, _, _ = DivMod(Sub(w.G, Mul(w.U, f)), g)
	}
	return w
}

// remainders is the last polynomial of the subresultants' sequence that isn't 0, and how often a stands in it; what is divided by on the way divides all, so numbers stay short without a gcd.
func remainders(a, b api.ZPoly) (r, u api.ZPoly) {
	x, y := a, b
	u, v := zpoly.Const(whole.Of(1)), api.ZPoly(nil)
	lead, height := whole.Of(1), whole.Of(1)
	for len(y) > 0 {
		gap := len(x) - len(y)
		q, left, k, _ := zpoly.Pseudo(x, y)
		cut := whole.Mul(lead, powers.Of(height, gap))
		up := powers.Of(zpoly.Lead(y), k)
		next := zpoly.Sub(zpoly.Scale(u, up), zpoly.Mul(q, v))
		x, y = y, divided(left, cut)
		if len(y) > 0 {
			next = divided(next, cut)
		}
		u, v = v, next
		lead = zpoly.Lead(x)
		if gap > 0 {
			height, _ = whole.Exact(powers.Of(lead, gap), powers.Of(height, gap-1))
		}
	}
	return x, u
}

func divided(f api.ZPoly, c api.Int) api.ZPoly {
	q, _ := zpoly.Exact(f, zpoly.Const(c))
	return q
}

// HoldsGcd says whether it is a gcd, with its polynomials.
func HoldsGcd(f, g api.QPoly, w api.QBezout) bool {
	for _, x := range []api.QPoly{f, g, w.G, w.U, w.V} {
		if !Right(x) {
			return false
		}
	}
	if len(w.G) > 0 && !frac.Same(Lead(w.G), frac.Whole(whole.Of(1))) {
		return false
	}
	return divides(w.G, f) && divides(w.G, g) && Same(w.G, Add(Mul(w.U, f), Mul(w.V, g)))
}

func divides(d, f api.QPoly) bool {
	if len(d) == 0 {
		return len(f) == 0
	}
	_, r, _ := DivMod(f, d)
	return len(r) == 0
}
