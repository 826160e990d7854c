package zerodim

import (
	"math/rand"
	"slices"
	"testing"

	"algebrist/api"
	"algebrist/frac"
	"algebrist/ideal"
	"algebrist/matrix"
	"algebrist/mono"
	"algebrist/mpoly"
	"algebrist/qpoly"
	"algebrist/whole"
)

func rat(n, d int) api.Rat {
	a, _ := frac.Of(whole.Of(n), whole.Of(d))
	return a
}

func poly(n int, terms ...[]int) api.MPoly {
	out := api.MPoly{N: n}
	for _, x := range terms {
		out = mpoly.Add(out, api.MPoly{N: n, T: []api.Term{{E: x[1:], C: rat(x[0], 1)}}})
	}
	return out
}

func draw(r *rand.Rand, n, terms, top int) api.MPoly {
	out := api.MPoly{N: n}
	for range 1 + r.Intn(terms) {
		e := make([]int, n)
		for range r.Intn(top + 1) {
			if n > 0 {
				e[r.Intn(n)]++
			}
		}
		if c := rat(r.Intn(9)-4, 1+r.Intn(2)); frac.Sign(c) != 0 {
			out = mpoly.Add(out, api.MPoly{N: n, T: []api.Term{{E: e, C: c}}})
		}
	}
	return out
}

// points is a system whose zeros are known: those of a grid.
func points(xs, ys []int) []api.MPoly {
	f, g := poly(2, []int{1, 0, 0}), poly(2, []int{1, 0, 0})
	for _, a := range xs {
		f, _ = mpoly.Mul(f, poly(2, []int{1, 1, 0}, []int{-a, 0, 0}))
	}
	for _, b := range ys {
		g, _ = mpoly.Mul(g, poly(2, []int{1, 0, 1}, []int{-b, 0, 0}))
	}
	return []api.MPoly{f, g}
}

// P29.1, P29.2, P29.3, P29.4, P29.5: of small systems no error but ErrNone is told.
func TestSmall(t *testing.T) {
	r := rand.New(rand.NewSource(1))
	finite := 0
	for range 300 {
		n := r.Intn(3)
		var l []api.MPoly
		for range 1 + r.Intn(3) {
			l = append(l, draw(r, n, 5, 2))
		}
		ok, e := Finite(l)
		if e != api.OK {
			t.Fatal(l, e)
		}
		stairs, e := Stairs(l)
		if !ok {
			if e != api.ErrNone || len(stairs) != 0 {
				t.Fatal(l, e)
			}
			continue
		}
		finite++
		if e != api.OK {
			t.Fatal(e)
		}
		for i := range stairs {
			if i > 0 && mono.Cmp(grevLex(), stairs[i-1], stairs[i]) >= 0 {
				t.Fatal("rising", stairs)
			}
		}
		_, all, _ := ideal.One(l)
		if all != (len(stairs) == 0) {
			t.Fatal("all", l)
		}
		f, g := draw(r, n, 3, 2), draw(r, n, 3, 2)
		a, e1 := Matrix(l, f)
		b, e2 := Matrix(l, g)
		fg, _ := mpoly.Mul(f, g)
		ab, _ := matrix.Mul(a, b)
		sum, _ := matrix.Add(a, b)
		if e1 != api.OK || e2 != api.OK || !matrix.Right(a) || a.R != len(stairs) {
			t.Fatal("matrix", l, f, e1, e2)
		}
		if m, e := Matrix(l, fg); e == api.OK && !matrix.Same(m, ab) {
			t.Fatal("product", l, f, g)
		}
		if m, _ := Matrix(l, mpoly.Add(f, g)); !matrix.Same(m, sum) {
			t.Fatal("sum", l, f, g)
		}
		checkTrace(t, l, f, stairs)
		d, e := Distinct(l)
		one, _ := Trace(l, mpoly.Const(n, rat(1, 1)))
		pos, neg, _, _ := matrix.Inertia(one)
		k, e2 := Real(l)
		if e != api.OK || e2 != api.OK || d != matrix.Rank(one) || k != pos-neg || k > d || d > len(stairs) || k < 0 {
			t.Fatal("counts", l, d, k)
		}
		for i := range n {
			checkEliminant(t, l, i, len(stairs))
		}
	}
	if finite < 50 {
		t.Error(finite)
	}
}

func checkTrace(t *testing.T, l []api.MPoly, f api.MPoly, stairs [][]int) {
	t.Helper()
	m, e := Trace(l, f)
	if e != api.OK || !matrix.Right(m) || m.R != len(stairs) {
		t.Fatal("trace", e)
	}
	for i, s := range stairs {
		for j, u := range stairs {
			p, _ := mpoly.Mul(f, term(s))
			p, _ = mpoly.Mul(p, term(u))
			x, _ := Matrix(l, p)
			if at, _ := matrix.At(m, i, j); !frac.Same(at, trace(x)) {
				t.Fatal("trace", l, f, i, j)
			}
		}
	}
}

func checkEliminant(t *testing.T, l []api.MPoly, i, stairs int) {
	t.Helper()
	q, e := Eliminant(l, i)
	if e != api.OK || !qpoly.Right(q) || !frac.Same(qpoly.Lead(q), rat(1, 1)) || qpoly.Deg(q) > stairs {
		t.Fatal("eliminant", l, i, q, e)
	}
	f, _ := mpoly.Of(l[0].N, i, q)
	if _, in, e := ideal.In(f, l); !in || e != api.OK {
		t.Fatal("eliminant isn't in", l, i, q)
	}
	// The least: those of the variable alone are its multiples.
	if stairs > 0 {
		m, _ := Matrix(l, mpoly.Var(l[0].N, i))
		c, _ := matrix.CharPoly(m)
		if _, rest, _ := qpoly.DivMod(c, q); len(rest) != 0 {
			t.Fatal("eliminant", l, i)
		}
	} else if qpoly.Deg(q) != 0 {
		t.Fatal("of all")
	}
}

func TestKnown(t *testing.T) {
	l := points([]int{1, 2, -3}, []int{0, 5})
	if d, _ := Distinct(l); d != 6 {
		t.Error(d)
	}
	if k, _ := Real(l); k != 6 {
		t.Error(k)
	}
	double := points([]int{1, 1, 2}, []int{0, 0})
	if d, _ := Distinct(double); d != 2 {
		t.Error(d)
	}
	if q, _ := Eliminant(double, 0); qpoly.Deg(q) != 3 {
		t.Error(q)
	}
	x, y := mpoly.Var(2, 0), mpoly.Var(2, 1)
	two := []api.MPoly{poly(2, []int{1, 2, 0}, []int{-2, 0, 0}), mpoly.Sub(y, x)}
	s, _ := Stairs(two)
	if len(s) != 2 || !slices.Equal(s[0], []int{0, 0}) || !slices.Equal(s[1], []int{0, 1}) {
		t.Error(s)
	}
	if q, _ := Eliminant(two, 0); !qpoly.Same(q, api.QPoly{rat(-2, 1), rat(0, 1), rat(1, 1)}) {
		t.Error(q)
	}
	for i, c := range []struct {
		l    []api.MPoly
		d, k int
	}{{two, 2, 2}, {[]api.MPoly{poly(1, []int{1, 2}, []int{1, 0})}, 2, 0}, {[]api.MPoly{poly(1, []int{1, 2})}, 1, 1}, {[]api.MPoly{poly(0, []int{3})}, 0, 0}, {[]api.MPoly{{N: 0}}, 1, 1}, {[]api.MPoly{poly(1, []int{1, 0})}, 0, 0}, {[]api.MPoly{poly(2, []int{1, 2, 0}, []int{1, 0, 2}, []int{-5, 0, 0}), poly(2, []int{1, 1, 1}, []int{-2, 0, 0})}, 4, 4}} {
		d, e := Distinct(c.l)
		k, e2 := Real(c.l)
		if d != c.d || k != c.k || e != api.OK || e2 != api.OK {
			t.Error(i, d, k, e)
		}
	}
}

func TestErrors(t *testing.T) {
	x, z := mpoly.Var(2, 0), mpoly.Var(3, 0)
	many := []api.MPoly{poly(2, []int{1, 7, 0}), poly(2, []int{1, 0, 6})} // 42 stairs
	y := mpoly.Var(2, 1)
	for i, c := range []struct {
		l []api.MPoly
		f api.MPoly
		e [7]api.Errno // Finite, Stairs, Matrix, Eliminant, Trace, Distinct, Real
	}{
		{nil, x, [7]api.Errno{1, 1, 1, 1, 1, 1, 1}},
		{[]api.MPoly{x, z}, x, [7]api.Errno{1, 1, 1, 1, 1, 1, 1}},
		{[]api.MPoly{x, y}, z, [7]api.Errno{0, 0, 1, 0, 1, 0, 0}},
		{[]api.MPoly{x}, x, [7]api.Errno{0, 5, 5, 5, 5, 5, 5}},
		{many, x, [7]api.Errno{0, 0, 2, 0, 2, 2, 2}},
	} {
		_, a := Finite(c.l)
		_, b := Stairs(c.l)
		m, d := Matrix(c.l, c.f)
		q, e := Eliminant(c.l, 0)
		u, f := Trace(c.l, c.f)
		_, g := Distinct(c.l)
		_, h := Real(c.l)
		if got := [7]api.Errno{a, b, d, e, f, g, h}; got != c.e || d != 0 && m.R+len(m.A) != 0 || e != 0 && len(q) != 0 || f != 0 && u.R != 0 {
			t.Error(i, got)
		}
	}
	for _, i := range []int{-1, 2} {
		if q, e := Eliminant([]api.MPoly{x}, i); e != api.ErrArg || len(q) != 0 {
			t.Error(e)
		}
	}
	if s, e := Stairs(many); e != api.OK || len(s) != 42 {
		t.Error(len(s))
	}
	if q, e := Eliminant(many, 1); e != api.OK || qpoly.Deg(q) != 6 {
		t.Error(q)
	}
	if ok, e := Finite([]api.MPoly{x}); ok || e != api.OK {
		t.Error(e)
	}
}

func TestForty(t *testing.T) {
	l := points([]int{1, 2, 3, 4, 5, 6, 7, 8}, []int{1, -1, 2, -2, 3})
	if d, e := Distinct(l); d != 40 || e != api.OK {
		t.Error(d, e)
	}
	if k, e := Real(l); k != 40 || e != api.OK {
		t.Error(k, e)
	}
}

// ErrRange may be told where exponents are great; all else is empty then.
func TestRange(t *testing.T) {
	for i, l := range [][]api.MPoly{
		{poly(2, []int{1, 60, 0}, []int{-1, 0, 1}), poly(2, []int{1, 1, 60}, []int{-1, 0, 0})},
		{poly(2, []int{1, 1, 0}, []int{-1, 0, 2}), poly(2, []int{1, 0, 60}, []int{-1, 0, 0})},
	} {
		f := poly(2, []int{1, 60, 60})
		m, e1 := Matrix(l, f)
		u, e2 := Trace(l, f)
		q, e3 := Eliminant(l, 0)
		s, e4 := Stairs(l)
		_, e5 := Finite(l)
		d, e6 := Distinct(l)
		for _, e := range []api.Errno{e1, e2, e3, e4, e5, e6} {
			if e != api.OK && e != api.ErrRange {
				t.Error(i, e)
			}
		}
		if e1 != api.OK && m.R+len(m.A) != 0 || e2 != api.OK && u.R != 0 || e3 != api.OK && len(q) != 0 || e4 != api.OK && len(s) != 0 || e6 != api.OK && d != 0 {
			t.Error(i)
		}
	}
}
