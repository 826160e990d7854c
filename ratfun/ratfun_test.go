package ratfun

import (
	"math"
	"math/rand"
	"testing"

	"algebrist/api"
	"algebrist/frac"
	"algebrist/qpoly"
	"algebrist/whole"
	"algebrist/zassen"
	"algebrist/zpoly"
)

func rat(n, d int) api.Rat {
	a, _ := frac.Of(whole.Of(n), whole.Of(d))
	return a
}

func poly(l ...int) api.QPoly {
	out := make(api.QPoly, len(l))
	for i, n := range l {
		out[i] = rat(n, 1)
	}
	return qpoly.Add(out, nil)
}

func draw(r *rand.Rand, n int) api.QPoly {
	out := make(api.QPoly, r.Intn(n+1))
	for i := range out {
		out[i] = rat(r.Intn(9)-4, 1+r.Intn(3))
	}
	return qpoly.Add(out, nil)
}

func drawFun(r *rand.Rand, n int) api.RatFun {
	for {
		den := draw(r, n)
		for range r.Intn(3) {
			den = qpoly.Mul(den, draw(r, 3))
		}
		if f, e := New(draw(r, n), den); e == api.OK {
			return f
		}
	}
}

func must(t *testing.T, what string, got, want api.RatFun) {
	t.Helper()
	if !Right(got) || !Same(got, want) {
		t.Fatalf("%s: got %v, want %v", what, got, want)
	}
}

// P30.1, P30.2, P30.5
func TestField(t *testing.T) {
	r := rand.New(rand.NewSource(1))
	for range 150 {
		f, g, h := drawFun(r, 4), drawFun(r, 4), drawFun(r, 3)
		must(t, "taken apart", Mul(Add(f, g), h), Add(Mul(f, h), Mul(g, h)))
		must(t, "comes back", Sub(Add(f, g), g), f)
		must(t, "turned round", Add(f, g), Add(g, f))
		must(t, "neg", Add(f, Neg(f)), api.RatFun{Den: poly(1)})
		must(t, "diff", Diff(Mul(f, g)), Add(Mul(Diff(f), g), Mul(f, Diff(g))))
		if len(g.Num) > 0 {
			q, e := Div(Mul(f, g), g)
			if e != api.OK {
				t.Fatal(e)
			}
			must(t, "quotient", q, f)
			q, _ = Div(f, g)
			top := Sub(Mul(Diff(f), g), Mul(f, Diff(g)))
			d, _ := Div(top, Mul(g, g))
			must(t, "diff of a quotient", Diff(q), d)
		}
		a := rat(r.Intn(9)-4, 1+r.Intn(2))
		x, e1 := Value(f, a)
		y, e2 := Value(g, a)
		if z, e := Value(Add(f, g), a); e1 == api.OK && e2 == api.OK && (e != api.OK || !frac.Same(z, frac.Add(x, y))) {
			t.Fatal("values")
		}
	}
	if f, e := New(poly(1), nil); e != api.ErrZero || len(f.Den) != 0 {
		t.Error(e)
	}
	if f, e := Div(api.RatFun{Num: poly(1), Den: poly(1)}, api.RatFun{Den: poly(1)}); e != api.ErrZero || len(f.Den) != 0 {
		t.Error(e)
	}
	if x, e := Value(api.RatFun{Num: poly(1), Den: poly(-2, 1)}, rat(2, 1)); e != api.ErrZero || len(x.Den.Mag) != 0 {
		t.Error(e)
	}
	if Same(api.RatFun{Num: poly(1), Den: poly(1)}, api.RatFun{Num: poly(1), Den: poly(0, 1)}) || Same(api.RatFun{Num: poly(1), Den: poly(1)}, api.RatFun{Num: poly(2), Den: poly(1)}) || !Same(api.RatFun{}, api.RatFun{}) {
		t.Error("same")
	}
	f, _ := New(poly(-2, 0, 2), poly(-4, 4))
	must(t, "new", f, api.RatFun{Num: api.QPoly{rat(1, 2), rat(1, 2)}, Den: poly(1)})
	for i, x := range []struct {
		f    api.RatFun
		want bool
	}{{api.RatFun{}, false}, {api.RatFun{Den: poly(1)}, true}, {api.RatFun{Den: poly(0, 1)}, false}, {api.RatFun{Num: poly(1), Den: poly(2)}, false}, {api.RatFun{Num: poly(0, 1), Den: poly(0, 1)}, false}, {api.RatFun{Num: poly(1), Den: poly(0, 1)}, true}, {api.RatFun{Num: api.QPoly{{}}, Den: poly(1)}, false}} {
		if Right(x.f) != x.want {
			t.Error(i)
		}
	}
}

// P30.3, P30.4, P30.5
func TestSplit(t *testing.T) {
	r := rand.New(rand.NewSource(2))
	for range 150 {
		f := drawFun(r, 6)
		a, e := Split(f)
		if e != api.OK || !Holds(f, a) {
			t.Fatal(f, a, e)
		}
		back, e := Join(a)
		if e != api.OK {
			t.Fatal(e)
		}
		must(t, "joined", back, f)
		var last api.ZPoly
		n := 0
		for _, p := range a.L {
			m, _ := qpoly.Clear(p.Den)
			x, _, _ := zassen.Factor(m)
			if len(x.L) != 1 || x.L[0].N != 1 || !frac.Same(qpoly.Lead(p.Den), rat(1, 1)) || p.N < 1 || len(p.Num) == 0 || qpoly.Deg(p.Num) >= qpoly.Deg(p.Den) {
				t.Fatal(f, p)
			}
			if c := zpoly.Cmp(last, m); c > 0 || c == 0 && n >= p.N {
				t.Fatal("order", f, a)
			}
			last, n = m, p.N
		}
		if len(a.L) > 0 {
			bad := api.Apart{Whole: a.Whole, L: append([]api.Part(nil), a.L...)}
			bad.L[0].Num = qpoly.Add(bad.L[0].Num, poly(1))
			if Holds(f, bad) || Holds(f, api.Apart{Whole: a.Whole, L: a.L[1:]}) || Holds(f, api.Apart{Whole: qpoly.Add(a.Whole, poly(1)), L: a.L}) {
				t.Fatal("others hold")
			}
		}
	}
	f := api.RatFun{Num: poly(1), Den: poly(-1, 0, 1)}
	a, _ := Split(f)
	half := api.QPoly{rat(1, 2)}
	if len(a.L) != 2 || !qpoly.Same(a.L[0].Den, poly(-1, 1)) || !qpoly.Same(a.L[0].Num, half) || !qpoly.Same(a.L[1].Num, qpoly.Scale(half, rat(-1, 1))) {
		t.Error(a)
	}
	swapped := api.Apart{L: []api.Part{a.L[1], a.L[0]}}
	if Holds(f, swapped) || Holds(api.RatFun{}, api.Apart{}) || !Holds(api.RatFun{Num: poly(3), Den: poly(1)}, api.Apart{Whole: poly(3)}) {
		t.Error("holds")
	}
	if Holds(f, api.Apart{L: []api.Part{{Den: f.Den, N: 1, Num: f.Num}}}) {
		t.Error("a denominator that splits")
	}
	deep := append(make(api.QPoly, 0), poly(1)...)
	for range 41 {
		deep = qpoly.Mul(deep, poly(0, 1))
	}
	if a, e := Split(api.RatFun{Num: poly(1), Den: deep}); e != api.ErrRange || len(a.L) != 0 || Holds(api.RatFun{Num: poly(1), Den: deep}, a) {
		t.Error(e)
	}
	x := poly(0, 1)
	for i, c := range []struct {
		a api.Apart
		e api.Errno
	}{
		{api.Apart{L: []api.Part{{Den: x, N: 0, Num: x}, {N: 1}}}, api.ErrZero}, {api.Apart{L: []api.Part{{Den: x, N: 0, Num: x}}}, api.ErrRange}, {api.Apart{L: []api.Part{{Den: x, N: 41, Num: x}}}, api.ErrRange},
		{api.Apart{L: []api.Part{{Den: x, N: math.MinInt, Num: x}}}, api.ErrRange}, {api.Apart{L: []api.Part{{Den: x, N: 40, Num: x}}}, api.OK}, {api.Apart{}, api.OK},
	} {
		if f, e := Join(c.a); e != c.e || e != api.OK && len(f.Den) != 0 || e == api.OK && !Right(f) {
			t.Error(i, e)
		}
	}
}
