package mpoly

import (
	"math"
	"math/rand"
	"slices"
	"testing"

	"algebrist/api"
	"algebrist/frac"
	"algebrist/mono"
	"algebrist/qpoly"
	"algebrist/whole"
)

func rat(n, d int) api.Rat {
	a, _ := frac.Of(whole.Of(n), whole.Of(d))
	return a
}

func draw(r *rand.Rand, n, terms, top int) api.MPoly {
	out := api.MPoly{N: n}
	for range r.Intn(terms + 1) {
		e := make([]int, n)
		for i := range e {
			e[i] = r.Intn(top + 1)
		}
		if c := rat(r.Intn(9)-4, 1+r.Intn(3)); frac.Sign(c) != 0 {
			out = Add(out, api.MPoly{N: n, T: []api.Term{{E: e, C: c}}})
		}
	}
	return out
}

func point(r *rand.Rand, n int) []api.Rat {
	out := make([]api.Rat, n)
	for i := range out {
		out[i] = rat(r.Intn(9)-4, 1+r.Intn(2))
	}
	return out
}

func same(t *testing.T, what string, got, want api.MPoly) {
	t.Helper()
	if !Right(got) || !Same(got, want) {
		t.Fatalf("%s: got %v, want %v", what, got, want)
	}
}

func value(f api.MPoly, x []api.Rat) api.Rat {
	v, _ := Value(f, x)
	return v
}

// P25.1
func TestKept(t *testing.T) {
	term := func(c api.Rat, e ...int) api.Term { return api.Term{E: e, C: c} }
	for i, x := range []struct {
		f    api.MPoly
		want bool
	}{
		{api.MPoly{}, true}, {api.MPoly{N: 6}, true}, {api.MPoly{N: 7}, false}, {api.MPoly{N: -1}, false},
		{api.MPoly{N: 1, T: []api.Term{term(rat(1, 1), 60)}}, true}, {api.MPoly{N: 1, T: []api.Term{term(rat(1, 1), 61)}}, false},
		{api.MPoly{N: 1, T: []api.Term{term(rat(0, 1), 1)}}, false}, {api.MPoly{N: 1, T: []api.Term{term(api.Rat{}, 1)}}, false},
		{api.MPoly{N: 2, T: []api.Term{term(rat(1, 1), 1)}}, false}, {api.MPoly{N: 1, T: []api.Term{term(rat(1, 1), 1), term(rat(1, 1), 2)}}, false},
		{api.MPoly{N: 1, T: []api.Term{term(rat(1, 1), 1), term(rat(1, 1), 1)}}, false}, {api.MPoly{N: 2, T: []api.Term{term(rat(1, 1), 1, 0), term(rat(1, 1), 0, 9)}}, true},
		{api.MPoly{N: 0, T: []api.Term{term(rat(1, 1))}}, true}, {api.MPoly{N: 1, T: []api.Term{term(rat(1, 1), -1)}}, false},
	} {
		if Right(x.f) != x.want {
			t.Error(i)
		}
	}
	x, y := Var(2, 0), Var(2, 1)
	if Same(x, y) || Same(x, Var(3, 0)) || Same(x, Scale(x, rat(2, 1))) || !Same(x, Var(2, 0)) || Same(x, Add(x, y)) {
		t.Error("same")
	}
	same(t, "const", Const(2, rat(0, 1)), api.MPoly{N: 2})
	if Deg(api.MPoly{N: 2}) != -1 || Deg(Const(2, rat(3, 1))) != 0 || Deg(Add(x, Const(2, rat(1, 1)))) != 1 {
		t.Error("deg")
	}
	one := Const(2, rat(1, 1))
	for i, c := range []struct {
		f, g api.MPoly
		want int
	}{{x, x, 0}, {api.MPoly{N: 2}, one, -1}, {x, y, 1}, {x, Add(x, y), -1}, {x, Scale(x, rat(2, 1)), -1}, {Scale(one, rat(-5, 1)), one, -1}, {Add(x, y), Add(x, one), 1}} {
		if Cmp(c.f, c.g) != c.want || Cmp(c.g, c.f) != -c.want {
			t.Error(i)
		}
	}
}

// P25.2, P25.4
func TestRing(t *testing.T) {
	r := rand.New(rand.NewSource(1))
	for range 400 {
		n := r.Intn(5)
		f, g, h := draw(r, n, 6, 3), draw(r, n, 6, 3), draw(r, n, 4, 2)
		fg, e := Mul(f, g)
		gf, _ := Mul(g, f)
		if e != api.OK {
			t.Fatal(e)
		}
		same(t, "turned round", fg, gf)
		gh, _ := Mul(g, h)
		fgh, _ := Mul(fg, h)
		other, _ := Mul(f, gh)
		same(t, "products", fgh, other)
		fh, _ := Mul(f, h)
		sum, _ := Mul(Add(f, g), h)
		same(t, "taken apart", sum, Add(fh, gh))
		same(t, "comes back", Sub(Add(f, g), g), f)
		same(t, "neg", Add(f, Neg(f)), api.MPoly{N: n})
		c := rat(r.Intn(5)-2, 3)
		scaled, _ := Mul(f, Const(n, c))
		same(t, "scale", Scale(f, c), scaled)
		x := point(r, n)
		if !frac.Same(value(fg, x), frac.Mul(value(f, x), value(g, x))) || !frac.Same(value(Add(f, g), x), frac.Add(value(f, x), value(g, x))) {
			t.Fatal("values")
		}
		p, e := Pow(h, 3)
		hh, _ := Mul(h, h)
		hhh, _ := Mul(hh, h)
		if e != api.OK {
			t.Fatal(e)
		}
		same(t, "pow", p, hhh)
		for i := range n {
			left, _ := Mul(Diff(f, i), g)
			right, _ := Mul(f, Diff(g, i))
			same(t, "diff", Diff(fg, i), Add(left, right))
			s, e := Subst(f, i, h)
			y := slices.Clone(x)
			y[i] = value(h, x)
			if e != api.OK || !Right(s) || !frac.Same(value(s, x), value(f, y)) {
				t.Fatal("subst", f, i, h, s)
			}
		}
	}
}

func TestRange(t *testing.T) {
	x, y := Var(2, 0), Var(2, 1)
	x30, e := Pow(x, 30)
	x31, _ := Pow(x, 31)
	if e != api.OK {
		t.Error(e)
	}
	if p, e := Mul(x30, x30); e != api.OK || Deg(p) != 60 {
		t.Error(e)
	}
	if p, e := Mul(x30, x31); e != api.ErrRange || p.N != 0 {
		t.Error(e)
	}
	if p, e := Mul(x31, api.MPoly{N: 2}); e != api.OK || len(p.T) != 0 || p.N != 2 {
		t.Error(e)
	}
	if p, e := Pow(x, 60); e != api.OK || Deg(p) != 60 {
		t.Error(e)
	}
	x30y, _ := Mul(x30, y)
	if p, e := Subst(x30y, 1, x30); e != api.OK || Deg(p) != 60 {
		t.Error(e)
	}
	for _, k := range []int{-1, 61, 1001, math.MaxInt, math.MinInt} {
		if p, e := Pow(x, k); e != api.ErrRange || p.N != 0 {
			t.Error(k, e)
		}
	}
	if p, e := Pow(Const(2, rat(-1, 1)), 1000); e != api.OK || !Same(p, Const(2, rat(1, 1))) {
		t.Error(e)
	}
	if _, e := Pow(Const(2, rat(-1, 1)), 1001); e != api.ErrRange {
		t.Error(e)
	}
	if p, e := Pow(api.MPoly{N: 2}, 0); e != api.OK || !Same(p, Const(2, rat(1, 1))) {
		t.Error(e)
	}
	if p, e := Pow(api.MPoly{N: 2}, 1000); e != api.OK || len(p.T) != 0 {
		t.Error(e)
	}
	xy, _ := Mul(x31, y)
	if p, e := Subst(xy, 1, x30); e != api.ErrRange || p.N != 0 {
		t.Error(e)
	}
	// What cancels doesn't matter: each term is looked at.
	if _, e := Subst(Sub(xy, xy), 1, x30); e != api.OK {
		t.Error(e)
	}
	if p, e := Subst(xy, 1, api.MPoly{N: 2}); e != api.OK || len(p.T) != 0 {
		t.Error(e)
	}
	if p, e := Subst(xy, 0, y); e != api.OK || Deg(p) != 32 {
		t.Error(e)
	}
	if v, e := Value(x, []api.Rat{rat(1, 1)}); e != api.ErrArg || len(v.Den.Mag) != 0 {
		t.Error(e)
	}
	if v, e := Value(x, point(rand.New(rand.NewSource(1)), 3)); e != api.ErrArg || len(v.Den.Mag) != 0 {
		t.Error(e)
	}
}

// P25.3
func TestOrders(t *testing.T) {
	r := rand.New(rand.NewSource(2))
	for range 300 {
		n := 1 + r.Intn(4)
		f, g := draw(r, n, 7, 3), draw(r, n, 7, 3)
		for _, o := range []api.Order{{Kind: api.Lex}, {Kind: api.GrLex}, {Kind: api.GrevLex}, {Kind: api.Block, Cut: r.Intn(n + 1)}} {
			l := Sort(f, o)
			lead, some := Lead(f, o)
			if len(l) != len(f.T) || some != (len(l) > 0) {
				t.Fatal("sort")
			}
			for i := range l {
				if i > 0 && mono.Cmp(o, l[i-1].E, l[i].E) != 1 {
					t.Fatal("falling", o)
				}
			}
			m := Monic(f, o)
			if !some {
				if len(lead.E) != 0 || len(lead.C.Den.Mag) != 0 || len(m.T) != 0 || m.N != n {
					t.Fatal("lead of 0")
				}
				continue
			}
			if !slices.Equal(lead.E, l[0].E) || !frac.Same(lead.C, l[0].C) {
				t.Fatal("lead")
			}
			same(t, "monic", Scale(m, lead.C), f)
			if fg, _ := Mul(f, g); len(fg.T) > 0 {
				a, _ := Lead(fg, o)
				b, _ := Lead(g, o)
				e, _ := mono.Mul(lead.E, b.E)
				if !slices.Equal(a.E, e) || !frac.Same(a.C, frac.Mul(lead.C, b.C)) {
					t.Fatal("leading terms multiply")
				}
			}
		}
		wide := Widen(f, 6)
		x := point(r, 6)
		if !Right(wide) || wide.N != 6 || !frac.Same(value(wide, x), value(f, x[:n])) {
			t.Fatal("widen")
		}
	}
}

func TestOneVariable(t *testing.T) {
	q := api.QPoly{rat(1, 2), rat(0, 1), rat(-3, 1)}
	f, e := Of(3, 1, q)
	if e != api.OK || !Right(f) || Deg(f) != 2 || len(f.T) != 2 {
		t.Error(f, e)
	}
	if back, ok := One(f, 1); !ok || !qpoly.Same(back, q) {
		t.Error(back)
	}
	if back, ok := One(f, 0); ok || len(back) != 0 {
		t.Error(back)
	}
	if back, ok := One(Const(3, rat(2, 1)), 2); !ok || qpoly.Deg(back) != 0 {
		t.Error(back)
	}
	if back, ok := One(api.MPoly{N: 3}, 2); !ok || len(back) != 0 {
		t.Error(back)
	}
	long := make(api.QPoly, 62)
	for i := range long {
		long[i] = rat(1, 1)
	}
	for i, x := range []struct {
		n, i int
		f    api.QPoly
		e    api.Errno
	}{{7, 0, q, api.ErrArg}, {-1, 0, q, api.ErrArg}, {2, 2, q, api.ErrArg}, {2, -1, long, api.ErrArg}, {0, 0, q, api.ErrArg}, {2, 1, long, api.ErrRange}, {2, 1, long[:61], api.OK}, {6, 5, q, api.OK}, {1, 0, q, api.OK}, {6, 6, q, api.ErrArg}, {math.MaxInt, 1, q, api.ErrArg}} {
		if f, e := Of(x.n, x.i, x.f); e != x.e || e != api.OK && f.N != 0 {
			t.Error(i, e)
		}
	}
}
