// Package sparse has polynomials in several variables in the form in which they are worked on: terms that fall by an order, each with its monomial as one number, and as another one that tells its place in the order.
package sparse

import (
	"slices"

	"algebrist/api"
	"algebrist/frac"
)

// Mono is a monomial: Bits has an exponent in each byte, that of the first variable in the lowest one; Key is the greater, the greater the monomial is.
type Mono struct {
	Bits uint64
	Key  int64
}

// Term is a term.
type Term struct {
	Mono
	C api.Rat
}

// Poly is terms that fall.
type Poly []Term

const (
	field    = 6 // bits of an exponent up to MaxExp
	degree   = 9 // bits of a degree
	tops     = 0x808080808080
	tooGreat = 0x434343434343 // takes a byte above 60 to its top bit
)

// Weights are what each variable adds to a monomial's key: keys are sums of them, so the key of a product is the sum of the keys.
type Weights [api.MaxVars]int64

// WeightsOf is the weights of an order for n variables.
func WeightsOf(n int, o api.Order) Weights {
	var w Weights
	for i := range n {
		switch o.Kind {
		case api.Lex:
			w[i] = 1 << (field * (n - 1 - i))
		case api.GrLex:
			w[i] = 1<<(field*n) + 1<<(field*(n-1-i))
		case api.GrevLex:
			w[i] = reverse(n, i)
		default:
			if i >= o.Cut {
				w[i] = reverse(n-o.Cut, i-o.Cut)
			} else {
				w[i] = reverse(o.Cut, i) << (field*(n-o.Cut) + degree + 1)
			}
		}
	}
	return w
}

// reverse is a degree's weight, less what the variable i of n takes: the last one takes most.
func reverse(n, i int) int64 { return 1<<(field*n+1) - 1<<(field*i) }

// MonoOf is a monomial.
func (w *Weights) MonoOf(e []int) Mono {
	var m Mono
	for i, x := range e {
		m.Bits |= uint64(x) << (8 * i)
		m.Key += int64(x) * w[i]
	}
	return m
}

// Exponents is a monomial's exponents in n variables.
func (m Mono) Exponents(n int) []int {
	e := make([]int, n)
	for i := range e {
		e[i] = int(m.Bits >> (8 * i) & 0xff)
	}
	return e
}

// Divides says whether a monomial divides another one.
func (m Mono) Divides(b Mono) bool { return ((b.Bits|tops)-m.Bits)&tops == tops }

// Over is a by a monomial that divides it.
func (m Mono) Over(b Mono) Mono { return Mono{m.Bits - b.Bits, m.Key - b.Key} }

// Times is a product; false, if an exponent would be above the limit.
func (m Mono) Times(b Mono) (Mono, bool) {
	p := Mono{m.Bits + b.Bits, m.Key + b.Key}
	return p, (p.Bits+tooGreat)&tops == 0
}

// Of is a polynomial in this form.
func (w *Weights) Of(f api.MPoly) Poly {
	out := make(Poly, len(f.T))
	for i, t := range f.T {
		out[i] = Term{w.MonoOf(t.E), t.C}
	}
	slices.SortFunc(out, falling)
	return out
}

func falling(a, b Term) int {
	switch {
	case a.Key > b.Key:
		return -1
	case a.Key < b.Key:
		return 1
	}
	return 0
}

// MPoly is a polynomial in n variables in the form of the layers.
func (p Poly) MPoly(n int) api.MPoly {
	lex := WeightsOf(n, api.Order{Kind: api.Lex})
	type named struct {
		key int64
		t   api.Term
	}
	l := make([]named, len(p))
	for i, t := range p {
		e := t.Exponents(n)
		l[i] = named{lex.MonoOf(e).Key, api.Term{E: e, C: t.C}}
	}
	slices.SortFunc(l, func(a, b named) int {
		if a.key > b.key {
			return -1
		}
		return 1
	})
	out := api.MPoly{N: n, T: make([]api.Term, len(l))}
	for i, x := range l {
		out.T[i] = x.t
	}
	return out
}

// Reach is the greatest exponents of all variables, as the bits of a monomial.
func (p Poly) Reach() Mono {
	var m Mono
	for _, t := range p {
		for i := 0; i < 8*api.MaxVars; i += 8 {
			if top := t.Bits >> i & 0xff; top > m.Bits>>i&0xff {
				m.Bits = m.Bits&^(0xff<<i) | top<<i
			}
		}
	}
	return m
}

// Less is p less c times a monomial times g.
func (p Poly) Less(c api.Rat, m Mono, g Poly) Poly {
	out := make(Poly, 0, len(p)+len(g))
	c = frac.Neg(c)
	i := 0
	for _, t := range g {
		x := Mono{t.Bits + m.Bits, t.Key + m.Key}
		for i < len(p) && p[i].Key > x.Key {
			out = append(out, p[i])
			i++
		}
		y := frac.Mul(c, t.C)
		if i < len(p) && p[i].Key == x.Key {
			y = frac.Add(p[i].C, y)
			i++
		}
		if frac.Sign(y) != 0 {
			out = append(out, Term{x, y})
		}
	}
	return append(out, p[i:]...)
}
