// Package brown has the gcd of polynomials in several variables, by Brown's way: by primes, and over a prime by values of one variable after another.
package brown

import (
	"slices"

	"algebrist/api"
	"algebrist/euclid"
	"algebrist/frac"
	"algebrist/lehmer"
	"algebrist/mono"
	"algebrist/mpoly"
	"algebrist/qpoly"
	"algebrist/whole"
	"algebrist/zgcd"
)

// Gcd is the monic (by Lex) polynomial of the greatest degree that divides both; 0 of 0 and 0.
func Gcd(f, g api.MPoly) api.MPoly {
	lex := api.Order{Kind: api.Lex}
	if len(f.T) == 0 || len(g.T) == 0 {
		return mpoly.Monic(mpoly.Add(f, g), lex)
	}
	m, k := lowest(f), lowest(g)
	h := mpoly.Monic(free(f.N, pieces(over(f, m), over(g, k))), lex)
	return times(h, mono.Gcd(m, k))
}

// lowest is the greatest monomial that divides all terms.
func lowest(f api.MPoly) []int {
	m := f.T[0].E
	for _, t := range f.T {
		m = mono.Gcd(m, t.E)
	}
	return m
}

func over(f api.MPoly, m []int) api.MPoly {
	return shifted(f, func(e []int) []int { q, _ := mono.Div(e, m); return q })
}

func times(f api.MPoly, m []int) api.MPoly {
	return shifted(f, func(e []int) []int { p, _ := mono.Mul(e, m); return p })
}

func shifted(f api.MPoly, do func(e []int) []int) api.MPoly {
	out := api.MPoly{N: f.N}
	for _, t := range f.T {
		out.T = append(out.T, api.Term{E: do(t.E), C: t.C})
	}
	return out
}

// pieces are polynomials with the gcd of two: a variable that stands in one of them alone is in no common divisor, so what stands at each of its powers is looked at by itself.
func pieces(f, g api.MPoly) []api.MPoly {
	a, b := stands(f), stands(g)
	alone := func(h api.MPoly, own, other []bool) []api.MPoly {
		parts := []api.MPoly{h}
		for i := range own {
			if own[i] && !other[i] {
				parts = byPowers(parts, i)
			}
		}
		return parts
	}
	l := append(alone(f, a, b), alone(g, b, a)...)
	slices.SortStableFunc(l, func(x, y api.MPoly) int { return len(x.T) - len(y.T) })
	return l
}

// stands says which variables stand in f.
func stands(f api.MPoly) []bool {
	out := make([]bool, f.N)
	for _, t := range f.T {
		for i, x := range t.E {
			out[i] = out[i] || x > 0
		}
	}
	return out
}

func byPowers(l []api.MPoly, i int) []api.MPoly {
	var out []api.MPoly
	for _, f := range l {
		var parts [api.MaxExp + 1]api.MPoly
		for _, t := range f.T {
			e := slices.Clone(t.E)
			e[i] = 0
			parts[t.E[i]].T = append(parts[t.E[i]].T, api.Term{E: e, C: t.C})
		}
		for _, p := range parts {
			if len(p.T) > 0 {
				out = append(out, api.MPoly{N: f.N, T: p.T})
			}
		}
	}
	return out
}

// free is the gcd of all pieces, but for a number.
func free(n int, l []api.MPoly) api.MPoly {
	out := l[0]
	for _, f := range l[1:] {
		if mpoly.Deg(out) == 0 {
			break
		}
		if slices.Equal(stands(out), stands(f)) {
			out = same(out, f)
		} else {
			out = Gcd(out, f)
		}
	}
	if mpoly.Deg(out) == 0 {
		return mpoly.Const(n, frac.Whole(whole.Of(1)))
	}
	return out
}

// same is the gcd of two in which the same variables stand, but for a number.
func same(f, g api.MPoly) api.MPoly {
	var vars []int
	for i, is := range stands(f) {
		if is {
			vars = append(vars, i)
		}
	}
	switch len(vars) {
	case 0:
		return mpoly.Const(f.N, frac.Whole(whole.Of(1)))
	case 1:
		return oneVariable(f, g, vars[0])
	}
	return unpack(f.N, vars, byPrimes(pack(f, vars), pack(g, vars), len(vars)))
}

func oneVariable(f, g api.MPoly, i int) api.MPoly {
	p, _ := mpoly.One(f, i)
	q, _ := mpoly.One(g, i)
	a, _ := qpoly.Clear(p)
	b, _ := qpoly.Clear(q)
	out, _ := mpoly.Of(f.N, i, qpoly.From(zgcd.List([]api.ZPoly{a, b})))
	return out
}

// term is a whole coefficient, and a monomial: eight bits for each variable, the first one's at the top, so that keys fall as monomials do by Lex.
type term struct {
	key int64
	c   api.Int
}

const field = 8

// pack is a primitive multiple of f.
func pack(f api.MPoly, vars []int) []term {
	den := whole.Of(1)
	for _, t := range f.T {
		den = euclid.Lcm(den, t.C.Den)
	}
	var out []term
	for _, t := range f.T {
		var key int64
		for _, i := range vars {
			key = key<<field | int64(t.E[i])
		}
		q, _ := whole.Exact(den, t.C.Den)
		out = append(out, term{key, whole.Mul(t.C.Num, q)})
	}
	return primitive(out)
}

func unpack(n int, vars []int, l []term) api.MPoly {
	out := api.MPoly{N: n}
	for _, t := range l {
		e := make([]int, n)
		key := t.key
		for _, i := range slices.Backward(vars) {
			e[i] = int(key & (1<<field - 1))
			key >>= field
		}
		out.T = append(out.T, api.Term{E: e, C: frac.Whole(t.c)})
	}
	return out
}

func primitive(l []term) []term {
	var g api.Int
	for _, t := range l {
		g = lehmer.GcdInt(g, t.c)
	}
	out := make([]term, len(l))
	for i, t := range l {
		q, _ := whole.Exact(t.c, g)
		out[i] = term{t.key, q}
	}
	return out
}
