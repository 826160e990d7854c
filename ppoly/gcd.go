package ppoly

import (
	"algebrist/api"
	"algebrist/modp"
	"algebrist/nat"
	"algebrist/whole"
)

// Gcd is the gcd with Bezout's polynomials.
func Gcd(f, g api.PPoly) api.PBezout {
	p := f.P
	x := api.PBezout{G: f, U: constant(p, 1), V: api.PPoly{P: p}}
	y := api.PBezout{G: g, U: api.PPoly{P: p}, V: constant(p, 1)}
	for len(y.G.C) > 0 {
		q, r, _ := DivMod(x.G, y.G)
		x, y = y, api.PBezout{G: r, U: Sub(x.U, Mul(q, y.U)), V: Sub(x.V, Mul(q, y.V))}
	}
	unit, monic := Monic(x.G)
	if unit == 0 {
		return api.PBezout{G: monic, U: api.PPoly{P: p}, V: api.PPoly{P: p}}
	}
	inv, _ := modp.Inv(p, unit)
	return api.PBezout{G: monic, U: Scale(x.U, inv), V: Scale(x.V, inv)}
}

// HoldsGcd says whether it is a gcd, with its polynomials.
func HoldsGcd(f, g api.PPoly, w api.PBezout) bool {
	for _, x := range []api.PPoly{f, g, w.G, w.U, w.V} {
		if x.P != f.P || !Right(x) {
			return false
		}
	}
	if len(w.G.C) > 0 && w.G.C[len(w.G.C)-1] != 1 {
		return false
	}
	return divides(w.G, f) && divides(w.G, g) && Same(w.G, sum(f.P, Mul(w.U, f), Mul(w.V, g)))
}

func divides(d, f api.PPoly) bool {
	if len(d.C) == 0 {
		return len(f.C) == 0
	}
	_, r, _ := DivMod(f, d)
	return len(r.C) == 0
}

// sum is the sum of any number of polynomials.
func sum(p uint32, parts ...api.PPoly) api.PPoly {
	out := api.PPoly{P: p}
	for _, f := range parts {
		out = Add(out, f)
	}
	return out
}

// PowMod is a power modulo m.
func PowMod(f api.PPoly, n api.Int, m api.PPoly) (api.PPoly, api.Errno) {
	if whole.Sign(n) < 0 {
		return api.PPoly{}, api.ErrArg
	}
	if len(m.C) == 0 {
		return api.PPoly{}, api.ErrZero
	}
	base, out := rest(f, m), rest(constant(f.P, 1), m)
	for i := nat.Len(n.Mag) - 1; i >= 0; i-- {
		out = rest(Mul(out, out), m)
		if n.Mag[i/32]>>uint(i%32)&1 == 1 {
			out = rest(Mul(out, base), m)
		}
	}
	return out, api.OK
}

// Frob is the power to the prime to the k, modulo m.
func Frob(f, m api.PPoly, k int) (api.PPoly, api.Errno) {
	if k < 0 || k > api.MaxPower {
		return api.PPoly{}, api.ErrRange
	}
	if len(m.C) == 0 {
		return api.PPoly{}, api.ErrZero
	}
	p := whole.Of(int(f.P))
	if k <= 1 {
		if k == 0 {
			return rest(f, m), api.OK
		}
		return PowMod(f, p, m)
	}
	// What f is to the power is f of that power of x; and powers of x are put into each other.
	x := api.PPoly{P: f.P, C: []uint32{0, 1}}
	square, _ := PowMod(x, p, m)
	out := rest(x, m)
	for ; k > 0; k >>= 1 {
		if k&1 == 1 {
			out = compose(out, square, m)
		}
		if k > 1 {
			square = compose(square, square, m)
		}
	}
	return compose(rest(f, m), out, m), api.OK
}

// compose is f of g, modulo m.
func compose(f, g, m api.PPoly) api.PPoly {
	out := api.PPoly{P: f.P}
	for i := len(f.C) - 1; i >= 0; i-- {
		out = Add(rest(Mul(out, g), m), constant(f.P, f.C[i]))
	}
	return rest(out, m)
}

func rest(f, m api.PPoly) api.PPoly {
	_, r, _ := DivMod(f, m)
	return r
}

func constant(p, c uint32) api.PPoly { return trim(p, []uint32{c}) }
