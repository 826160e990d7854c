package ideal

import (
	"math/rand"
	"slices"
	"testing"

	"algebrist/api"
	"algebrist/frac"
	"algebrist/groebner"
	"algebrist/mpoly"
	"algebrist/whole"
)

func rat(n, d int) api.Rat {
	a, _ := frac.Of(whole.Of(n), whole.Of(d))
	return a
}

func draw(r *rand.Rand, n, terms, top int) api.MPoly {
	out := api.MPoly{N: n}
	for range r.Intn(terms + 1) {
		e := make([]int, n)
		for range r.Intn(top + 1) {
			if n > 0 {
				e[r.Intn(n)]++
			}
		}
		if c := rat(r.Intn(9)-4, 1+r.Intn(3)); frac.Sign(c) != 0 {
			out = mpoly.Add(out, api.MPoly{N: n, T: []api.Term{{E: e, C: c}}})
		}
	}
	return out
}

func list(r *rand.Rand, n, many, terms, top int) []api.MPoly {
	var l []api.MPoly
	for range r.Intn(many + 1) {
		l = append(l, draw(r, n, terms, top))
	}
	return l
}

func poly(n int, terms ...[]int) api.MPoly {
	out := api.MPoly{N: n}
	for _, x := range terms {
		out = mpoly.Add(out, api.MPoly{N: n, T: []api.Term{{E: x[1:], C: rat(x[0], 1)}}})
	}
	return out
}

func in(t *testing.T, f api.MPoly, l []api.MPoly) bool {
	t.Helper()
	c, ok, e := In(f, l)
	if e != api.OK || ok && !HoldsIn(f, l, c) || !ok && len(c) != 0 {
		t.Fatal("in", f, l, c, e)
	}
	return ok
}

func sameAll(a, b []api.MPoly) bool { return slices.EqualFunc(a, b, mpoly.Same) }

// P28.1, P28.3: of small calls no error is told.
func TestIn(t *testing.T) {
	r := rand.New(rand.NewSource(1))
	for range 300 {
		n := r.Intn(3)
		l := list(r, n, 3, 5, 2)
		f := draw(r, n, 5, 4)
		sum := api.MPoly{N: n}
		for _, g := range l {
			p, _ := mpoly.Mul(g, draw(r, n, 3, 2))
			sum = mpoly.Add(sum, p)
		}
		if !in(t, sum, l) {
			t.Fatal("sums of multiples are in", l)
		}
		b, _ := groebner.Make(l, grevLex())
		if Out(f, l, b) == in(t, f, l) || Out(sum, l, b) {
			t.Fatal("in, or out", f, l)
		}
		c, some, e := One(l)
		if e != api.OK || some != (len(l) > 0 && in(t, one(n), l)) || some && !HoldsIn(one(n), l, c) {
			t.Fatal("one", l)
		}
		if c, ok, _ := In(f, l); ok && len(l) > 0 {
			c[0] = mpoly.Add(c[0], one(n))
			if HoldsIn(f, l, c) && len(l[0].T) > 0 {
				t.Fatal("other cofactors")
			}
		}
		for k := range n + 1 {
			if k > 0 && len(l) == 0 {
				break
			}
			g, e := Eliminate(l, k)
			if e != api.OK || !groebner.Is(g, grevLex()) {
				t.Fatal("eliminate", l, k, e)
			}
			for _, h := range g {
				if !in(t, h, l) || slices.ContainsFunc(h.T, func(t api.Term) bool { return slices.Max(append(t.E[:k:k], 0)) > 0 }) {
					t.Fatal("eliminate", l, k, g)
				}
			}
		}
	}
	x, y := mpoly.Var(2, 0), mpoly.Var(2, 1)
	l := []api.MPoly{mpoly.Add(x, y), poly(2, []int{2, 1, 1})}
	if !in(t, poly(2, []int{1, 2, 0}, []int{1, 0, 2}), l) {
		t.Error("example")
	}
	xx, yy := poly(2, []int{1, 2, 0}), poly(2, []int{1, 0, 2})
	if in(t, mpoly.Sub(x, y), []api.MPoly{xx, yy}) || !in(t, poly(2, []int{1, 2, 1}), []api.MPoly{xx, yy}) {
		t.Error("example")
	}
	if g, _ := Eliminate([]api.MPoly{mpoly.Sub(x, y), mpoly.Add(x, y)}, 1); !sameAll(g, []api.MPoly{y}) {
		t.Error(g)
	}
}

func TestLattice(t *testing.T) {
	r := rand.New(rand.NewSource(2))
	for range 120 {
		n := 1 + r.Intn(2)
		a, b := list(r, n, 2, 3, 2), list(r, n, 2, 3, 2)
		sum, e1 := Sum(a, b)
		product, e2 := Product(a, b)
		both, e3 := Meet(a, b)
		if e1 != api.OK || e2 != api.OK || e3 != api.OK {
			t.Fatal(a, b, e1, e2, e3)
		}
		for _, l := range [][]api.MPoly{sum, product, both} {
			if !groebner.Is(l, grevLex()) {
				t.Fatal("a basis", l)
			}
		}
		for _, f := range append(slices.Clone(a), b...) {
			if !in(t, f, sum) {
				t.Fatal("sum", a, b)
			}
		}
		for _, f := range product {
			if !in(t, f, both) {
				t.Fatal("products are in both", a, b)
			}
		}
		for _, f := range both {
			if !in(t, f, a) || !in(t, f, b) {
				t.Fatal("what is in both is in each", a, b)
			}
		}
		f := draw(r, n, 3, 2)
		q, e := Quotient(a, f)
		if e != api.OK || !groebner.Is(q, grevLex()) {
			t.Fatal("quotient", a, f, e)
		}
		for _, g := range q {
			if p, _ := mpoly.Mul(g, f); !in(t, p, a) {
				t.Fatal("quotient", a, f, q)
			}
		}
		for _, g := range a {
			if !in(t, g, q) {
				t.Fatal("quotient", a, f, q)
			}
		}
		c := slices.Clone(a)
		slices.Reverse(c)
		if ok, e := Equal(a, c); !ok || e != api.OK {
			t.Fatal("equal")
		}
		ok, _ := Equal(a, b)
		each := func(l, m []api.MPoly) bool {
			return !slices.ContainsFunc(l, func(f api.MPoly) bool { return !in(t, f, m) })
		}
		if ok != (each(a, b) && each(b, a)) {
			t.Fatal("equal", a, b)
		}
		if rad, e := Radical(f, a); e == api.OK {
			p := f
			found := in(t, f, a)
			for range 5 {
				p, _ = mpoly.Mul(p, f)
				found = found || in(t, p, a)
			}
			if found && !rad {
				t.Fatal("radical", f, a)
			}
		}
	}
	x, y := mpoly.Var(2, 0), mpoly.Var(2, 1)
	xx, xy := poly(2, []int{1, 2, 0}), poly(2, []int{1, 1, 1})
	if ok, e := Radical(x, []api.MPoly{xx}); !ok || e != api.OK {
		t.Error("radical")
	}
	if ok, e := Radical(y, []api.MPoly{xx}); ok || e != api.OK {
		t.Error("radical")
	}
	if ok, e := Radical(api.MPoly{N: 2}, nil); !ok || e != api.OK {
		t.Error("radical of 0")
	}
	if ok, e := Radical(x, nil); ok || e != api.OK {
		t.Error("radical of none")
	}
	if l, _ := Meet([]api.MPoly{x}, []api.MPoly{y}); !sameAll(l, []api.MPoly{xy}) {
		t.Error(l)
	}
	if l, _ := Quotient([]api.MPoly{xy}, x); !sameAll(l, []api.MPoly{y}) {
		t.Error(l)
	}
	if l, e := Quotient(nil, api.MPoly{N: 2}); e != api.OK || !sameAll(l, []api.MPoly{one(2)}) {
		t.Error(l)
	}
	if l, e := Quotient(nil, x); e != api.OK || len(l) != 0 {
		t.Error(l)
	}
	if l, e := Product(nil, []api.MPoly{x}); e != api.OK || len(l) != 0 {
		t.Error(l)
	}
}

func TestErrors(t *testing.T) {
	x, z := mpoly.Var(2, 0), mpoly.Var(3, 0)
	two, three := []api.MPoly{x}, []api.MPoly{z}
	if c, ok, e := In(x, three); e != api.ErrArg || ok || len(c) != 0 {
		t.Error(e)
	}
	if c, ok, e := One([]api.MPoly{x, z}); e != api.ErrArg || ok || len(c) != 0 {
		t.Error(e)
	}
	if _, e := Radical(x, three); e != api.ErrArg {
		t.Error(e)
	}
	for _, k := range []int{-1, 3} {
		if _, e := Eliminate(two, k); e != api.ErrArg {
			t.Error(e)
		}
	}
	if _, e := Eliminate(nil, 1); e != api.ErrArg {
		t.Error(e)
	}
	if l, e := Eliminate(nil, 0); e != api.OK || len(l) != 0 {
		t.Error(e)
	}
	for _, e := range []api.Errno{second(Sum(two, three)), second(Product(two, three)), second(Meet(two, three)), second(Quotient(two, z)), second(Eliminate([]api.MPoly{x, z}, 0))} {
		if e != api.ErrArg {
			t.Error(e)
		}
	}
	if ok, e := Equal(two, three); e != api.ErrArg || ok {
		t.Error(e)
	}
	if l, e := Meet([]api.MPoly{mpoly.Var(6, 0)}, []api.MPoly{mpoly.Var(6, 1)}); e != api.OK && (e != api.ErrRange || len(l) != 0) {
		t.Error(e)
	}
	b, _ := groebner.Make(two, grevLex())
	y := mpoly.Var(2, 1)
	if !Out(y, two, b) || Out(x, two, b) || Out(z, two, b) || Out(y, two, api.Basis{}) || Out(api.MPoly{N: 2, T: []api.Term{{}}}, two, b) || Out(y, []api.MPoly{x, y}, b) || !Out(y, nil, api.Basis{}) || Out(api.MPoly{N: 2}, nil, api.Basis{}) {
		t.Error("out")
	}
	if HoldsIn(x, two, nil) || HoldsIn(x, two, three) || HoldsIn(x, two, []api.MPoly{{N: 2}}) || !HoldsIn(api.MPoly{N: 2}, nil, nil) || HoldsIn(api.MPoly{N: 7}, nil, nil) || HoldsIn(x, three, three) {
		t.Error("holds in")
	}
	deep, _ := mpoly.Pow(x, 60)
	if HoldsIn(api.MPoly{N: 2}, []api.MPoly{deep, deep}, []api.MPoly{x, mpoly.Neg(x)}) {
		t.Error("an exponent above 60")
	}
}

func second[T any](_ T, e api.Errno) api.Errno { return e }

// A common zero of a list is a zero of what is in; 1 isn't in beside one.
func TestCommonZero(t *testing.T) {
	r := rand.New(rand.NewSource(3))
	for range 100 {
		p := []api.Rat{rat(r.Intn(5)-2, 1), rat(r.Intn(5)-2, 1)}
		var l []api.MPoly
		for range 1 + r.Intn(3) {
			f := draw(r, 2, 4, 2)
			v, _ := mpoly.Value(f, p)
			l = append(l, mpoly.Sub(f, mpoly.Const(2, v)))
		}
		if _, some, e := One(l); some || e != api.OK {
			t.Fatal("1 is in", l)
		}
		f := draw(r, 2, 4, 3)
		if v, _ := mpoly.Value(f, p); frac.Sign(v) != 0 && in(t, f, l) {
			t.Fatal("in", f, l)
		}
	}
}

// ErrRange may be told where exponents are great, or all six variables are there; all else is empty then.
func TestRange(t *testing.T) {
	pow := func(n, i, k int) api.MPoly { f, _ := mpoly.Pow(mpoly.Var(n, i), k); return f }
	far, six := pow(2, 0, 40), mpoly.Var(6, 0)
	wild := []api.MPoly{mpoly.Sub(pow(2, 0, 60), mpoly.Var(2, 1)), mpoly.Sub(poly(2, []int{1, 1, 60}), one(2))}
	check := func(what string, l []api.MPoly, e api.Errno) {
		t.Helper()
		if e != api.OK && e != api.ErrRange || e != api.OK && len(l) != 0 {
			t.Error(what, e, l)
		}
	}
	l, e := Product([]api.MPoly{far}, []api.MPoly{far})
	check("product", l, e)
	if e != api.ErrRange {
		t.Error("x^80")
	}
	l, e = Meet([]api.MPoly{six}, []api.MPoly{mpoly.Var(6, 1)})
	check("meet", l, e)
	l, e = Quotient([]api.MPoly{six}, mpoly.Var(6, 1))
	check("quotient", l, e)
	if ok, e := Radical(mpoly.Var(6, 1), []api.MPoly{six}); e != api.OK && e != api.ErrRange || ok {
		t.Error("radical", e)
	}
	if ok, e := Radical(six, []api.MPoly{six}); e != api.OK || !ok {
		t.Error("radical of what is in", e)
	}
	for k := range 3 {
		l, e = Eliminate(wild, k)
		check("eliminate", l, e)
	}
	l, e = Sum(wild, nil)
	check("sum", l, e)
	l, ok, e := In(far, wild)
	check("in", l, e)
	if e != api.OK && ok {
		t.Error("in")
	}
	l, _, e = One(wild)
	check("one", l, e)
	if ok, e := Equal(wild, wild); e != api.OK && ok {
		t.Error("equal")
	}
	if ok, e := Radical(pow(2, 0, 60), wild); e != api.OK && ok {
		t.Error("radical")
	}
	l, e = Meet(wild, []api.MPoly{far})
	check("meet", l, e)
	l, e = Quotient(wild, far)
	check("quotient", l, e)
}
