package groebner

import (
	"math/rand"
	"slices"
	"testing"

	"algebrist/api"
	"algebrist/frac"
	"algebrist/mdiv"
	"algebrist/mpoly"
	"algebrist/qpoly"
	"algebrist/whole"
)

func rat(n, d int) api.Rat {
	a, _ := frac.Of(whole.Of(n), whole.Of(d))
	return a
}

// draw is of a degree in all of at most top.
func draw(r *rand.Rand, n, terms, top int) api.MPoly {
	out := api.MPoly{N: n}
	for range r.Intn(terms + 1) {
		e := make([]int, n)
		for range r.Intn(top + 1) {
			if n > 0 {
				e[r.Intn(n)]++
			}
		}
		if c := rat(r.Intn(9)-4, 1+r.Intn(3)); frac.Sign(c) != 0 {
			out = mpoly.Add(out, api.MPoly{N: n, T: []api.Term{{E: e, C: c}}})
		}
	}
	return out
}

func orders(n int) []api.Order {
	return []api.Order{{Kind: api.Lex}, {Kind: api.GrLex}, {Kind: api.GrevLex}, {Kind: api.Block, Cut: n / 2}, {Kind: api.Block, Cut: n}}
}

func sameAll(a, b []api.MPoly) bool { return slices.EqualFunc(a, b, mpoly.Same) }

func poly(n int, terms ...[]int) api.MPoly {
	out := api.MPoly{N: n}
	for _, x := range terms {
		out = mpoly.Add(out, api.MPoly{N: n, T: []api.Term{{E: x[1:], C: rat(x[0], 1)}}})
	}
	return out
}

// P27.1, P27.2, P27.3: of small lists no error is told.
func TestSmall(t *testing.T) {
	r := rand.New(rand.NewSource(1))
	for range 400 {
		n := r.Intn(3)
		var l []api.MPoly
		for range r.Intn(4) {
			l = append(l, draw(r, n, 6, 2))
		}
		for _, o := range orders(n) {
			b, e := Make(l, o)
			if e != api.OK || !Holds(l, o, b) || !Is(b.G, o) {
				t.Fatal(l, o, b, e)
			}
			other := slices.Clone(l)
			slices.Reverse(other)
			if len(l) > 0 {
				p, _ := mpoly.Mul(l[0], draw(r, n, 3, 2))
				other = append(other, mpoly.Add(p, l[len(l)-1]))
			}
			c, e := Make(other, o)
			if e != api.OK || !sameAll(b.G, c.G) {
				t.Fatal("hangs on how the ideal is told", l, o)
			}
			sum := api.MPoly{N: n}
			for _, f := range l {
				p, _ := mpoly.Mul(f, draw(r, n, 3, 2))
				sum = mpoly.Add(sum, p)
			}
			if d, e := mdiv.Divide(sum, b.G, o); e != api.OK || len(d.R.T) != 0 {
				t.Fatal("a sum of multiples", l, o)
			}
		}
	}
}

func TestOneVariable(t *testing.T) {
	r := rand.New(rand.NewSource(2))
	for range 200 {
		var l []api.MPoly
		gcd := api.QPoly(nil)
		h := draw(r, 1, 3, 3)
		for range 1 + r.Intn(6) {
			f, _ := mpoly.Mul(draw(r, 1, 6, 5), h)
			l = append(l, f)
			q, _ := mpoly.One(f, 0)
			gcd = qpoly.Gcd(gcd, q).G
		}
		b, e := Make(l, api.Order{Kind: api.GrevLex})
		if e != api.OK || !Holds(l, api.Order{Kind: api.GrevLex}, b) {
			t.Fatal(l, b, e)
		}
		want, _ := mpoly.Of(1, 0, gcd)
		if len(gcd) == 0 && len(b.G) != 0 || len(gcd) > 0 && (len(b.G) != 1 || !mpoly.Same(b.G[0], want)) {
			t.Fatal("the gcd alone", l, b)
		}
	}
}

func TestGreater(t *testing.T) {
	r := rand.New(rand.NewSource(3))
	for range 40 {
		n := 2 + r.Intn(2)
		var l []api.MPoly
		for range 1 + r.Intn(3) {
			l = append(l, draw(r, n, 4, 3))
		}
		for _, o := range orders(n) {
			if b, e := Make(l, o); e == api.OK && !Holds(l, o, b) || e != api.OK && (e != api.ErrRange || len(b.G)+len(b.A)+len(b.B) != 0) {
				t.Fatal(l, o, e)
			}
		}
	}
	// Cyclic 3, and Katsura 3.
	cyclic := []api.MPoly{poly(3, []int{1, 1, 0, 0}, []int{1, 0, 1, 0}, []int{1, 0, 0, 1}), poly(3, []int{1, 1, 1, 0}, []int{1, 0, 1, 1}, []int{1, 1, 0, 1}), poly(3, []int{1, 1, 1, 1}, []int{-1, 0, 0, 0})}
	katsura := []api.MPoly{
		poly(4, []int{1, 1, 0, 0, 0}, []int{2, 0, 1, 0, 0}, []int{2, 0, 0, 1, 0}, []int{2, 0, 0, 0, 1}, []int{-1, 0, 0, 0, 0}),
		poly(4, []int{1, 2, 0, 0, 0}, []int{2, 0, 2, 0, 0}, []int{2, 0, 0, 2, 0}, []int{2, 0, 0, 0, 2}, []int{-1, 1, 0, 0, 0}),
		poly(4, []int{2, 1, 1, 0, 0}, []int{2, 0, 1, 1, 0}, []int{2, 0, 0, 1, 1}, []int{-1, 0, 1, 0, 0}),
		poly(4, []int{1, 0, 2, 0, 0}, []int{2, 1, 0, 1, 0}, []int{2, 0, 1, 0, 1}, []int{-1, 0, 0, 1, 0}),
	}
	for _, l := range [][]api.MPoly{cyclic, katsura} {
		o := api.Order{Kind: api.GrevLex}
		if b, e := Make(l, o); e != api.OK || !Holds(l, o, b) {
			t.Error(e)
		}
	}
}

func TestEdges(t *testing.T) {
	lex := api.Order{Kind: api.Lex}
	x, y, one := mpoly.Var(2, 0), mpoly.Var(2, 1), poly(2, []int{1, 0, 0})
	b, e := Make([]api.MPoly{poly(2, []int{1, 2, 0}, []int{-1, 0, 1}), poly(2, []int{1, 1, 1}, []int{-1, 0, 0})}, lex)
	if e != api.OK || !sameAll(b.G, []api.MPoly{poly(2, []int{1, 0, 3}, []int{-1, 0, 0}), poly(2, []int{1, 1, 0}, []int{-1, 0, 2})}) {
		t.Error(b.G)
	}
	if b, _ := Make([]api.MPoly{x, mpoly.Add(x, one)}, lex); !sameAll(b.G, []api.MPoly{one}) {
		t.Error(b.G)
	}
	if b, e := Make(nil, api.Order{Kind: 9}); e != api.OK || len(b.G)+len(b.A)+len(b.B) != 0 || !Holds(nil, api.Order{Kind: 9}, b) {
		t.Error("of none")
	}
	zero := []api.MPoly{{N: 2}, {N: 2}}
	if b, e := Make(zero, lex); e != api.OK || len(b.G)+len(b.A) != 0 || len(b.B) != 2 || len(b.B[0]) != 0 || !Holds(zero, lex, b) {
		t.Error("of 0")
	}
	for i, c := range []struct {
		l []api.MPoly
		o api.Order
	}{{[]api.MPoly{x, mpoly.Var(3, 0)}, lex}, {[]api.MPoly{x}, api.Order{Kind: 4}}, {[]api.MPoly{x}, api.Order{Kind: api.Block, Cut: 3}}, {[]api.MPoly{x}, api.Order{Cut: 1}}} {
		if b, e := Make(c.l, c.o); e != api.ErrArg || len(b.G) != 0 {
			t.Error(i, e)
		}
	}
	for i, c := range []struct {
		l    []api.MPoly
		o    api.Order
		want bool
	}{
		{nil, api.Order{Kind: 9}, true}, {[]api.MPoly{x}, lex, true}, {[]api.MPoly{x}, api.Order{Kind: 9}, false}, {[]api.MPoly{y, x}, lex, true}, {[]api.MPoly{x, y}, lex, false},
		{[]api.MPoly{mpoly.Scale(x, rat(2, 1))}, lex, false}, {[]api.MPoly{{N: 2}}, lex, false}, {[]api.MPoly{y, mpoly.Add(x, y)}, lex, false},
		{[]api.MPoly{mpoly.Var(3, 1), x}, lex, false}, {[]api.MPoly{x, x}, lex, false}, {[]api.MPoly{one}, lex, true}, {[]api.MPoly{one, x}, lex, false},
		{[]api.MPoly{poly(2, []int{1, 1, 1}, []int{-1, 0, 0}), poly(2, []int{1, 2, 0}, []int{-1, 0, 1})}, lex, false},
		{[]api.MPoly{{N: 7}}, lex, false},
		// The S-polynomial of both has y^61.
		{[]api.MPoly{poly(3, []int{1, 0, 1, 1}), poly(3, []int{1, 1, 0, 0}, []int{1, 0, 60, 0})}, lex, false},
		{[]api.MPoly{poly(3, []int{1, 0, 1, 1}), poly(3, []int{1, 1, 0, 0}, []int{1, 0, 59, 0})}, lex, true},
	} {
		if Is(c.l, c.o) != c.want {
			t.Error(i)
		}
	}
}

func TestHolds(t *testing.T) {
	o := api.Order{Kind: api.GrevLex}
	l := []api.MPoly{poly(2, []int{1, 2, 0}, []int{-1, 0, 1}), poly(2, []int{1, 1, 1}, []int{-1, 0, 0})}
	b, _ := Make(l, o)
	one := poly(2, []int{1, 0, 0})
	change := func(f func(b *api.Basis)) api.Basis {
		c := api.Basis{G: slices.Clone(b.G)}
		for _, row := range b.A {
			c.A = append(c.A, slices.Clone(row))
		}
		for _, row := range b.B {
			c.B = append(c.B, slices.Clone(row))
		}
		f(&c)
		return c
	}
	if !Holds(l, o, change(func(b *api.Basis) {})) {
		t.Error("what holds")
	}
	for i, c := range []api.Basis{
		change(func(b *api.Basis) { b.A = b.A[1:] }), change(func(b *api.Basis) { b.B = b.B[1:] }), change(func(b *api.Basis) { b.A[0] = b.A[0][1:] }), change(func(b *api.Basis) { b.B[0] = b.B[0][1:] }),
		change(func(b *api.Basis) { b.A[0][0] = mpoly.Add(b.A[0][0], one) }), change(func(b *api.Basis) { b.B[1][0] = mpoly.Add(b.B[1][0], one) }),
		change(func(b *api.Basis) { b.G, b.A = b.G[1:], b.A[1:] }), change(func(b *api.Basis) { b.A[0][0].N = 3 }), change(func(b *api.Basis) { b.G = slices.Clone(l) }),
		{}, {G: []api.MPoly{one}, A: [][]api.MPoly{{one, one}}, B: [][]api.MPoly{{l[0]}, {l[1]}}},
	} {
		if Holds(l, o, c) {
			t.Error(i)
		}
	}
	if Holds([]api.MPoly{l[0], mpoly.Widen(l[1], 3)}, o, b) || Holds(l, api.Order{Kind: api.Lex}, b) || Holds(nil, o, b) {
		t.Error("of other lists")
	}
	// One is not in the ideal of x alone, and x alone is not all of that of x and y.
	x, y := mpoly.Var(2, 0), mpoly.Var(2, 1)
	zero := api.MPoly{N: 2}
	if Holds([]api.MPoly{x}, o, api.Basis{G: []api.MPoly{one}, A: [][]api.MPoly{{zero}}, B: [][]api.MPoly{{x}}}) || Holds([]api.MPoly{x, y}, o, api.Basis{G: []api.MPoly{x}, A: [][]api.MPoly{{one, zero}}, B: [][]api.MPoly{{one}, {zero}}}) {
		t.Error("another ideal")
	}
}

// Numbers stay short where many polynomials in one variable are given.
func TestManyInOneVariable(t *testing.T) {
	r := rand.New(rand.NewSource(4))
	for range 20 {
		var l []api.MPoly
		for range 8 {
			f := api.MPoly{N: 1}
			for i := range 9 {
				f = mpoly.Add(f, api.MPoly{N: 1, T: []api.Term{{E: []int{i}, C: rat(1+r.Intn(1000000), 1+r.Intn(3))}}})
			}
			l = append(l, f)
		}
		if b, e := Make(l, api.Order{}); e != api.OK || !Holds(l, api.Order{}, b) {
			t.Fatal(e)
		}
	}
}

// ErrRange may be told where exponents are great; all else is empty then.
func TestGreatExponents(t *testing.T) {
	lex := api.Order{Kind: api.Lex}
	told := 0
	for i, l := range [][]api.MPoly{
		{poly(3, []int{1, 3, 0, 0}, []int{1, 0, 1, 1}, []int{-3, 0, 0, 0}), poly(3, []int{1, 0, 3, 0}, []int{1, 1, 0, 1}, []int{-5, 0, 0, 0}), poly(3, []int{1, 0, 0, 3}, []int{1, 1, 1, 0}, []int{-7, 0, 0, 0})},
		{poly(2, []int{1, 60, 0}, []int{-1, 0, 1}), poly(2, []int{1, 1, 60}, []int{-1, 0, 0})},
		{poly(2, []int{1, 2, 0}, []int{-1, 0, 31}), poly(2, []int{1, 1, 2}, []int{-1, 0, 0})},
		{poly(2, []int{1, 31, 0}, []int{1, 0, 31}, []int{1, 0, 0}), poly(2, []int{1, 30, 1}, []int{1, 1, 30}, []int{2, 0, 0})},
		{poly(1, []int{1, 60}, []int{1, 0}), poly(1, []int{1, 59}, []int{3, 1})},
		{poly(3, []int{1, 0, 1, 1}), poly(3, []int{1, 1, 0, 0}, []int{1, 0, 60, 0})},
		{poly(3, []int{1, 0, 1, 1}), poly(3, []int{1, 1, 0, 0}, []int{1, 0, 59, 0})},
		{poly(3, []int{1, 30, 0, 1}), poly(3, []int{1, 0, 31, 0}, []int{1, 31, 0, 0})},
	} {
		for _, o := range []api.Order{lex, {Kind: api.GrevLex}} {
			b, e := Make(l, o)
			switch {
			case e == api.ErrRange:
				told++
				if len(b.G)+len(b.A)+len(b.B) != 0 {
					t.Error(i)
				}
			case e != api.OK || !Holds(l, o, b):
				t.Error(i, e)
			}
		}
	}
	if told == 0 {
		t.Error("none told")
	}
	// A cofactor that is right, but for an exponent above 60 in a product.
	x60, _ := mpoly.Pow(mpoly.Var(1, 0), 60)
	if sumsTo([]api.MPoly{{N: 1}}, [][]api.MPoly{{x60, mpoly.Neg(x60)}}, []api.MPoly{x60, x60}) {
		t.Error("above 60")
	}
}
