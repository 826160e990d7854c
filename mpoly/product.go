package mpoly

import (
	"slices"

	"algebrist/api"
	"algebrist/euclid"
	"algebrist/frac"
	"algebrist/sparse"
	"algebrist/whole"
)

// Mul is a product.
func Mul(f, g api.MPoly) (api.MPoly, api.Errno) {
	if len(f.T) == 0 || len(g.T) == 0 {
		return api.MPoly{N: f.N}, api.OK
	}
	for i := range f.N {
		if reach(f, i)+reach(g, i) > api.MaxExp {
			return api.MPoly{}, api.ErrRange
		}
	}
	return product(f, g), api.OK
}

// product works with whole coefficients, and sums by monomials.
func product(f, g api.MPoly) api.MPoly {
	w := sparse.WeightsOf(f.N, api.Order{Kind: api.Lex})
	a, c := cleared(f)
	b, d := cleared(g)
	places := map[int64]int{}
	var monos []sparse.Mono
	var sums []api.Int
	other := w.Of(g)
	for i, s := range w.Of(f) {
		for j, t := range other {
			m := sparse.Mono{Bits: s.Bits + t.Bits, Key: s.Key + t.Key}
			k, known := places[m.Key]
			if !known {
				k = len(sums)
				places[m.Key] = k
				monos, sums = append(monos, m), append(sums, api.Int{})
			}
			sums[k] = whole.Add(sums[k], whole.Mul(a[i], b[j]))
		}
	}
	den := whole.Mul(c, d)
	var p sparse.Poly
	for k, m := range monos {
		if whole.Sign(sums[k]) != 0 {
			q, _ := frac.Of(sums[k], den)
			p = append(p, sparse.Term{Mono: m, C: q})
		}
	}
	return p.MPoly(f.N)
}

// cleared is the coefficients times their common denominator, and that.
func cleared(f api.MPoly) ([]api.Int, api.Int) {
	den := whole.Of(1)
	for _, t := range f.T {
		den = euclid.Lcm(den, t.C.Den)
	}
	out := make([]api.Int, len(f.T))
	for i, t := range f.T {
		q, _ := whole.Exact(den, t.C.Den)
		out[i] = whole.Mul(t.C.Num, q)
	}
	return out, den
}

// Pow is a power.
func Pow(f api.MPoly, k int) (api.MPoly, api.Errno) {
	if k < 0 || k > api.MaxPower {
		return api.MPoly{}, api.ErrRange
	}
	for i := range f.N {
		if k*reach(f, i) > api.MaxExp {
			return api.MPoly{}, api.ErrRange
		}
	}
	if Deg(f) == 0 {
		c, _ := frac.Pow(f.T[0].C, k)
		return Const(f.N, c), api.OK
	}
	out := Const(f.N, one())
	for range k {
		out, _ = Mul(out, f)
		if len(out.T) == 0 {
			break
		}
	}
	return out, api.OK
}

// Subst has a polynomial in the place of a variable.
func Subst(f api.MPoly, i int, g api.MPoly) (api.MPoly, api.Errno) {
	for _, t := range f.T {
		for v := range f.N {
			e := t.E[i] * reach(g, v)
			if v != i {
				e += t.E[v]
			}
			if e > api.MaxExp {
				return api.MPoly{}, api.ErrRange
			}
		}
	}
	// By Horner's way: f's terms of each power of the variable, from the top one down.
	out := api.MPoly{N: f.N}
	for k := reach(f, i); k >= 0; k-- {
		out, _ = Mul(out, g)
		out = Add(out, ofPower(f, i, k))
	}
	return out, api.OK
}

// ofPower is what stands in f at a power of a variable.
func ofPower(f api.MPoly, i, k int) api.MPoly {
	var out []api.Term
	for _, t := range f.T {
		if t.E[i] == k {
			e := slices.Clone(t.E)
			e[i] = 0
			out = append(out, api.Term{E: e, C: t.C})
		}
	}
	return made(f.N, out)
}
