// Package buchberger finds Groebner bases by Buchberger's way, with what each Element was made of, so that whoever needs cofactors can make them, and others need not.
package buchberger

import (
	"slices"

	"algebrist/api"
	"algebrist/frac"
	"algebrist/mdiv"
	"algebrist/mono"
	"algebrist/mpoly"
	"algebrist/qpoly"
	"algebrist/whole"
	"algebrist/zgcd"
)

// Element is a monic polynomial: the sum of its parts, and of the polynomial that was given at a place, times a number.
type Element struct {
	F     api.MPoly
	From  int // the place, or -1
	Times api.Rat
	Parts []Part
	lead  []int
}

// Part is a polynomial times an element.
type Part struct {
	Of int
	By api.MPoly
}

// Search is what was found: all elements, in the order in which they came, and the places of those that make a basis, rising by their leading monomials.
type Search struct {
	All    []Element
	Active []int
	n      int
	o      api.Order
	pairs  []pair
}

// Find searches; nothing is told, if an exponent is too great. Not all polynomials are of one variable alone.
func Find(l []api.MPoly, o api.Order) (*Search, bool) {
	x := &Search{n: l[0].N, o: o}
	for _, i := range byLead(l, o) {
		if !x.take(l[i], Element{From: i, Times: frac.Whole(whole.Of(1))}) {
			return nil, false
		}
	}
	if !x.finish() {
		return nil, false
	}
	slices.SortFunc(x.Active, func(i, j int) int { return mono.Cmp(o, x.All[i].lead, x.All[j].lead) })
	return x, true
}

// byLead is the places of those that aren't 0, the least leading monomial first.
func byLead(l []api.MPoly, o api.Order) []int {
	var out []int
	var leads [][]int
	for i, f := range l {
		t, some := mpoly.Lead(f, o)
		leads = append(leads, t.E)
		if some {
			out = append(out, i)
		}
	}
	slices.SortStableFunc(out, func(i, j int) int { return mono.Cmp(o, leads[i], leads[j]) })
	return out
}

// Reduced is the k-th active one less what the others take of it, and its parts.
func (x *Search) Reduced(k int) (api.MPoly, []Part, bool) {
	var others []api.MPoly
	for j, i := range x.Active {
		if j != k {
			others = append(others, x.All[i].F)
		}
	}
	d, e := mdiv.Divide(x.All[x.Active[k]].F, others, x.o)
	if e != api.OK {
		return api.MPoly{}, nil, false
	}
	one := mpoly.Const(x.n, frac.Whole(whole.Of(1)))
	parts := []Part{{x.Active[k], one}}
	for j, i := range x.Active {
		if j != k {
			parts = append(parts, Part{i, mpoly.Neg(d.Q[0])})
			d.Q = d.Q[1:]
		}
	}
	return d.R, parts, true
}

// Basis is the reduced basis alone; nothing is told, if an exponent is too great.
func Basis(l []api.MPoly, o api.Order) ([]api.MPoly, bool) {
	if len(l) == 0 {
		return nil, true
	}
	if l[0].N == 1 {
		return single(l), true
	}
	x, ok := Find(l, o)
	if !ok {
		return nil, false
	}
	var out []api.MPoly
	for k := range x.Active {
		g, _, ok := x.Reduced(k)
		if !ok {
			return nil, false
		}
		out = append(out, g)
	}
	return out, true
}

// single is the basis in one variable: the gcd.
func single(l []api.MPoly) []api.MPoly {
	var all []api.ZPoly
	for _, f := range l {
		q, _ := mpoly.One(f, 0)
		z, _ := qpoly.Clear(q)
		all = append(all, z)
	}
	g, _ := mpoly.Of(1, 0, qpoly.Monic(qpoly.From(zgcd.List(all))))
	if len(g.T) == 0 {
		return nil
	}
	return []api.MPoly{g}
}

// Short says whether S-polynomials of a basis, and their remainders, surely have no exponent above the limit: by an order that looks at the degree first no term on the way is of a greater degree than the S-polynomial. Pairs that were passed by may have one else.
func Short(l []api.MPoly, o api.Order) bool {
	byDegree := o.Kind == api.GrLex || o.Kind == api.GrevLex
	return byDegree && !slices.ContainsFunc(l, func(f api.MPoly) bool { return 2*mpoly.Deg(f) > api.MaxExp })
}

// pair is two elements whose S-polynomial is still to be looked at.
type pair struct {
	i, j int
	lcm  []int
}

// take reduces a polynomial, whose making is told, and takes what is left in; false, if an exponent is too great.
func (x *Search) take(f api.MPoly, making Element) bool {
	var by []api.MPoly
	for _, i := range x.Active {
		by = append(by, x.All[i].F)
	}
	d, e := mdiv.Divide(f, by, x.o)
	if e != api.OK {
		return false
	}
	t, some := mpoly.Lead(d.R, x.o)
	if !some {
		return true
	}
	inv, _ := frac.Div(frac.Whole(whole.Of(1)), t.C)
	for j, i := range x.Active {
		if len(d.Q[j].T) > 0 {
			making.Parts = append(making.Parts, Part{i, mpoly.Neg(d.Q[j])})
		}
	}
	for j, p := range making.Parts {
		making.Parts[j].By = mpoly.Scale(p.By, inv)
	}
	making.F, making.lead, making.Times = mpoly.Scale(d.R, inv), t.E, frac.Mul(making.Times, inv)
	x.add(making)
	return true
}

// add takes an element in, with the pairs that matter (Gebauer and Moeller).
func (x *Search) add(h Element) {
	k := len(x.All)
	x.All = append(x.All, h)
	x.pairs = slices.DeleteFunc(x.pairs, func(p pair) bool {
		return mono.Divides(h.lead, p.lcm) && !slices.Equal(mono.Lcm(x.All[p.i].lead, h.lead), p.lcm) && !slices.Equal(mono.Lcm(x.All[p.j].lead, h.lead), p.lcm)
	})
	var fresh []pair
	for _, i := range x.Active {
		fresh = append(fresh, pair{i, k, mono.Lcm(x.All[i].lead, h.lead)})
	}
	x.pairs = append(x.pairs, x.needed(fresh)...)
	x.Active = slices.DeleteFunc(x.Active, func(i int) bool { return mono.Divides(h.lead, x.All[i].lead) })
	x.Active = append(x.Active, k)
}

// needed is of new pairs those whose least common multiple no other one's divides; of alike ones one, and none, if the leading monomials of one of them have nothing in common.
func (x *Search) needed(fresh []pair) []pair {
	var out []pair
	for a, p := range fresh {
		keep := !x.coprime(p)
		for b, q := range fresh {
			if a == b || !mono.Divides(q.lcm, p.lcm) {
				continue
			}
			if !slices.Equal(q.lcm, p.lcm) || b < a || x.coprime(q) {
				keep = false
			}
		}
		if keep {
			out = append(out, p)
		}
	}
	return out
}

func (x *Search) coprime(p pair) bool {
	return mono.Deg(mono.Gcd(x.All[p.i].lead, x.All[p.j].lead)) == 0
}

// finish looks at pairs, the least common multiple first, as long as there are any.
func (x *Search) finish() bool {
pairs:
	for {
		if len(x.pairs) == 0 {
			break pairs
		}
		best := 0
		for i, p := range x.pairs {
			if mono.Cmp(x.o, p.lcm, x.pairs[best].lcm) < 0 {
				best = i
			}
		}
		p := x.pairs[best]
		x.pairs = slices.Delete(x.pairs, best, best+1)
		a, b := x.All[p.i], x.All[p.j]
		s, e := mdiv.S(a.F, b.F, x.o)
		if e != api.OK {
			return false
		}
		parts := []Part{{p.i, x.cofactor(p.lcm, a.lead, 1)}, {p.j, x.cofactor(p.lcm, b.lead, -1)}}
		if !x.take(s, Element{From: -1, Times: frac.Whole(whole.Of(1)), Parts: parts}) {
			return false
		}
	}
	return true
}

// cofactor is m by a leading monomial, times a sign.
func (x *Search) cofactor(m, lead []int, sign int) api.MPoly {
	e, _ := mono.Div(m, lead)
	return api.MPoly{N: x.n, T: []api.Term{{E: e, C: frac.Whole(whole.Of(sign))}}}
}
