package groebner

import (
	"slices"

	"algebrist/api"
	"algebrist/frac"
	"algebrist/mdiv"
	"algebrist/mono"
	"algebrist/mpoly"
	"algebrist/whole"
)

// search is Buchberger's way. Elements are only kept with what they were made of; rows of cofactors are made of that at the end, for those that are left.
type search struct {
	n      int
	o      api.Order
	given  int
	all    []element
	active []int // those whose leading monomial none that came later divides
	pairs  []pair
}

// element is a monic polynomial: the sum of its parts, and of the polynomial that was given at a place, times a number.
type element struct {
	f     api.MPoly
	lead  []int
	from  int // the place, or -1
	times api.Rat
	parts []part
	row   []api.MPoly
}

// part is a polynomial times an element.
type part struct {
	of int
	by api.MPoly
}

// pair is two elements whose S-polynomial is still to be looked at.
type pair struct {
	i, j int
	lcm  []int
}

// start takes a given polynomial in.
func (x *search) start(place int, f api.MPoly) bool {
	return x.take(f, element{from: place, times: frac.Whole(whole.Of(1))})
}

// take reduces a polynomial, whose making is told, and takes what is left in; false, if an exponent is too great.
func (x *search) take(f api.MPoly, making element) bool {
	var by []api.MPoly
	for _, i := range x.active {
		by = append(by, x.all[i].f)
	}
	d, e := mdiv.Divide(f, by, x.o)
	if e != api.OK {
		return false
	}
	t, some := mpoly.Lead(d.R, x.o)
	if !some {
		return true
	}
	inv, _ := frac.Div(frac.Whole(whole.Of(1)), t.C)
	for j, i := range x.active {
		if len(d.Q[j].T) > 0 {
			making.parts = append(making.parts, part{i, mpoly.Neg(d.Q[j])})
		}
	}
	for j, p := range making.parts {
		making.parts[j].by = mpoly.Scale(p.by, inv)
	}
	making.f, making.lead, making.times = mpoly.Scale(d.R, inv), t.E, frac.Mul(making.times, inv)
	x.add(making)
	return true
}

// add takes an element in, with the pairs that matter (Gebauer and Moeller).
func (x *search) add(h element) {
	k := len(x.all)
	x.all = append(x.all, h)
	x.pairs = slices.DeleteFunc(x.pairs, func(p pair) bool {
		return mono.Divides(h.lead, p.lcm) && !slices.Equal(mono.Lcm(x.all[p.i].lead, h.lead), p.lcm) && !slices.Equal(mono.Lcm(x.all[p.j].lead, h.lead), p.lcm)
	})
	var fresh []pair
	for _, i := range x.active {
		fresh = append(fresh, pair{i, k, mono.Lcm(x.all[i].lead, h.lead)})
	}
	x.pairs = append(x.pairs, x.needed(fresh)...)
	x.active = slices.DeleteFunc(x.active, func(i int) bool { return mono.Divides(h.lead, x.all[i].lead) })
	x.active = append(x.active, k)
}

// needed is of new pairs those whose least common multiple no other one's divides; of alike ones one, and none, if the leading monomials of one of them have nothing in common.
func (x *search) needed(fresh []pair) []pair {
	var out []pair
	for a, p := range fresh {
		keep := !x.coprime(p)
		for b, q := range fresh {
			if a == b || !mono.Divides(q.lcm, p.lcm) {
				continue
			}
			if !slices.Equal(q.lcm, p.lcm) || b < a || x.coprime(q) {
				keep = false
			}
		}
		if keep {
			out = append(out, p)
		}
	}
	return out
}

func (x *search) coprime(p pair) bool {
	return mono.Deg(mono.Gcd(x.all[p.i].lead, x.all[p.j].lead)) == 0
}

// finish looks at pairs, the least common multiple first, as long as there are any.
func (x *search) finish() bool {
pairs:
	for {
		if len(x.pairs) == 0 {
			break pairs
		}
		best := 0
		for i, p := range x.pairs {
			if mono.Cmp(x.o, p.lcm, x.pairs[best].lcm) < 0 {
				best = i
			}
		}
		p := x.pairs[best]
		x.pairs = slices.Delete(x.pairs, best, best+1)
		a, b := x.all[p.i], x.all[p.j]
		s, e := mdiv.S(a.f, b.f, x.o)
		if e != api.OK {
			return false
		}
		parts := []part{{p.i, x.cofactor(p.lcm, a.lead, 1)}, {p.j, x.cofactor(p.lcm, b.lead, -1)}}
		if !x.take(s, element{from: -1, times: frac.Whole(whole.Of(1)), parts: parts}) {
			return false
		}
	}
	return true
}

// cofactor is m by a leading monomial, times a sign.
func (x *search) cofactor(m, lead []int, sign int) api.MPoly {
	e, _ := mono.Div(m, lead)
	return api.MPoly{N: x.n, T: []api.Term{{E: e, C: frac.Whole(whole.Of(sign))}}}
}

// sum is the row of a sum of parts; false, if an exponent is too great.
func (x *search) sum(parts []part) ([]api.MPoly, bool) {
	out := make([]api.MPoly, x.given)
	for j := range out {
		out[j].N = x.n
	}
	ok := true
	// Each row's polynomials, times the part's, are added place by place.
	together := func(by api.MPoly, row []api.MPoly) {
		for j, a := range row {
			p, e := mpoly.Mul(by, a)
			ok = ok && e == api.OK
			if e == api.OK {
				out[j] = mpoly.Add(out[j], p)
			}
		}
	}
	for _, p := range parts {
		row, fits := x.rowOf(p.of)
		if !fits {
			return nil, false
		}
		together(p.by, row)
	}
	return out, ok
}

// rowOf is an element's row, made when it is first asked for.
func (x *search) rowOf(i int) ([]api.MPoly, bool) {
	h := &x.all[i]
	if h.row == nil {
		row, ok := x.sum(h.parts)
		if !ok {
			return nil, false
		}
		if h.from >= 0 {
			row[h.from] = mpoly.Add(row[h.from], mpoly.Const(x.n, h.times))
		}
		h.row = row
	}
	return h.row, true
}
