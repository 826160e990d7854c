package hermite

import (
	"math/rand"
	"testing"

	"algebrist/api"
	"algebrist/frac"
	"algebrist/qpoly"
	"algebrist/ratfun"
	"algebrist/whole"
)

func rat(n, d int) api.Rat {
	a, _ := frac.Of(whole.Of(n), whole.Of(d))
	return a
}

func poly(l ...int) api.QPoly {
	out := make(api.QPoly, len(l))
	for i, n := range l {
		out[i] = rat(n, 1)
	}
	return qpoly.Add(out, nil)
}

func draw(r *rand.Rand, n int) api.QPoly {
	out := make(api.QPoly, r.Intn(n+1))
	for i := range out {
		out[i] = rat(r.Intn(9)-4, 1+r.Intn(2))
	}
	return qpoly.Add(out, nil)
}

func drawFun(r *rand.Rand) api.RatFun {
	for {
		den := draw(r, 3)
		for range r.Intn(3) {
			p := draw(r, 3)
			den = qpoly.Mul(den, qpoly.Mul(p, p))
		}
		if f, e := ratfun.New(draw(r, 6), den); e == api.OK {
			return f
		}
	}
}

// P31.1, P31.2
func TestReduce(t *testing.T) {
	r := rand.New(rand.NewSource(1))
	for range 250 {
		f := drawFun(r)
		g, h := Reduce(f)
		if !Holds(f, g, h) {
			t.Fatal(f, g, h)
		}
		g2, h2 := Reduce(h)
		if len(g2.Num) != 0 || !ratfun.Same(h2, h) {
			t.Fatal("what is reduced stays", h)
		}
		k := drawFun(r)
		a, b := Reduce(k)
		c, d := Reduce(ratfun.Add(f, k))
		if !ratfun.Same(c, ratfun.Add(g, a)) || !ratfun.Same(d, ratfun.Add(h, b)) {
			t.Fatal("sums", f, k)
		}
		p, q := Reduce(ratfun.Diff(f))
		if less := ratfun.Sub(f, p); len(q.Num) != 0 || qpoly.Deg(less.Num) > 0 || qpoly.Deg(less.Den) > 0 {
			t.Fatal("a derivative", f)
		}
		one := api.RatFun{Num: poly(1), Den: poly(1)}
		if Holds(f, ratfun.Add(g, one), h) || Holds(f, g, ratfun.Add(h, one)) || len(g.Num) > 0 && Holds(f, api.RatFun{Den: poly(1)}, f) && qpoly.Deg(f.Num) >= qpoly.Deg(f.Den) {
			t.Fatal("others hold", f)
		}
	}
	fun := func(a, b api.QPoly) api.RatFun { f, _ := ratfun.New(a, b); return f }
	g, h := Reduce(fun(poly(1), poly(0, 0, 1)))
	if !ratfun.Same(g, fun(poly(-1), poly(0, 1))) || !ratfun.Same(h, fun(nil, poly(1))) {
		t.Error(g, h)
	}
	g, h = Reduce(fun(poly(1, 0, 1), poly(0, 1)))
	if !ratfun.Same(g, fun(api.QPoly{rat(0, 1), rat(0, 1), rat(1, 2)}, poly(1))) || !ratfun.Same(h, fun(poly(1), poly(0, 1))) {
		t.Error(g, h)
	}
	f := fun(poly(1), poly(0, 0, 1))
	zero := fun(nil, poly(1))
	one := fun(poly(1), poly(1))
	if Holds(one, api.RatFun{Num: poly(0, 0, 1), Den: poly(0, 1)}, zero) || !Holds(one, fun(poly(0, 1), poly(1)), zero) {
		t.Error("not in lowest terms")
	}
	if Holds(f, zero, f) || Holds(api.RatFun{}, zero, zero) || Holds(f, api.RatFun{}, f) || !Holds(zero, zero, zero) || Holds(zero, fun(poly(3), poly(1)), zero) {
		t.Error("holds")
	}
}
