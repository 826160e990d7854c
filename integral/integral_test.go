package integral

import (
	"math/rand"
	"testing"

	"algebrist/api"
	"algebrist/frac"
	"algebrist/hermite"
	"algebrist/logpart"
	"algebrist/qpoly"
	"algebrist/ratfun"
	"algebrist/whole"
)

func rat(n, d int) api.Rat {
	a, _ := frac.Of(whole.Of(n), whole.Of(d))
	return a
}

func poly(l ...int) api.QPoly {
	out := make(api.QPoly, len(l))
	for i, n := range l {
		out[i] = rat(n, 1)
	}
	return qpoly.Add(out, nil)
}

func draw(r *rand.Rand, n int) api.QPoly {
	out := make(api.QPoly, r.Intn(n+1))
	for i := range out {
		out[i] = rat(r.Intn(9)-4, 1+r.Intn(2))
	}
	return qpoly.Add(out, nil)
}

func fun(a, b api.QPoly) api.RatFun { f, _ := ratfun.New(a, b); return f }

func drawFun(r *rand.Rand) api.RatFun {
	for {
		den := draw(r, 3)
		for range r.Intn(3) {
			p := draw(r, 2)
			den = qpoly.Mul(den, qpoly.Mul(p, p))
		}
		if f, e := ratfun.New(draw(r, 5), den); e == api.OK {
			return f
		}
	}
}

// P33.1, P33.4
func TestOf(t *testing.T) {
	r := rand.New(rand.NewSource(1))
	for range 150 {
		f := drawFun(r)
		x, e := Of(f)
		if e != api.OK || !Holds(f, x) {
			t.Fatal(f, x, e)
		}
		g, h := hermite.Reduce(f)
		if l, _ := logpart.Logs(h); !ratfun.Same(x.R, g) || len(l) != len(x.L) {
			t.Fatal("the one that is told")
		}
		y, _ := Of(ratfun.Diff(f))
		less := ratfun.Sub(f, y.R)
		if len(y.L) != 0 || qpoly.Deg(less.Num) > 0 || qpoly.Deg(less.Den) > 0 {
			t.Fatal("of a derivative", f)
		}
		if !Holds(f, api.Integral{R: ratfun.Add(x.R, fun(poly(3), poly(1))), L: x.L}) {
			t.Fatal("another number")
		}
		if Holds(f, api.Integral{R: ratfun.Add(x.R, fun(poly(0, 1), poly(1))), L: x.L}) || len(x.L) > 0 && Holds(f, api.Integral{R: x.R}) {
			t.Fatal("others hold")
		}
	}
	deep := poly(1)
	for range 41 {
		deep = qpoly.Mul(deep, poly(0, 1))
	}
	if x, e := Of(fun(poly(1), deep)); e != api.ErrRange || len(x.R.Den)+len(x.L) != 0 {
		t.Error(e)
	}
	if x, e := Of(fun(poly(1), deep[1:])); e != api.OK || len(x.L) != 0 {
		t.Error(e)
	}
	if Holds(api.RatFun{}, api.Integral{R: fun(nil, poly(1))}) || Holds(fun(nil, poly(1)), api.Integral{}) || !Holds(fun(nil, poly(1)), api.Integral{R: fun(nil, poly(1))}) {
		t.Error("what may not be")
	}
	if x, _ := Of(fun(poly(1), poly(0, 0, 1))); !ratfun.Same(x.R, fun(poly(-1), poly(0, 1))) || len(x.L) != 0 {
		t.Error(x)
	}
	if x, _ := Of(fun(poly(1), poly(0, 1))); len(x.R.Num) != 0 || len(x.L) != 1 || !qpoly.Same(x.L[0].Q, poly(-1, 1)) {
		t.Error(x)
	}
}

// P33.2, P33.3, P33.4
func TestDefinite(t *testing.T) {
	r := rand.New(rand.NewSource(2))
	for range 150 {
		g := drawFun(r)
		f := ratfun.Diff(g)
		l := []api.Rat{rat(r.Intn(9)-4, 1), rat(r.Intn(9)-4, 2), rat(r.Intn(9)-4, 3)}
		for i := range l {
			for j := range i {
				if frac.Cmp(l[j], l[i]) > 0 {
					l[i], l[j] = l[j], l[i]
				}
			}
		}
		ab, e1 := Definite(f, l[0], l[1])
		bc, e2 := Definite(f, l[1], l[2])
		ac, e3 := Definite(f, l[0], l[2])
		n, _ := Poles(f, l[0], l[2])
		if (e3 == api.OK) != (n == 0) || e3 != api.OK && e3 != api.ErrZero {
			t.Fatal(f, l, n, e3)
		}
		if e3 == api.OK && (e1 != api.OK || e2 != api.OK || !frac.Same(frac.Add(ab, bc), ac)) {
			t.Fatal("together", f, l)
		}
	}
	f := fun(poly(1), poly(0, 0, 1))
	if x, e := Definite(f, rat(1, 1), rat(2, 1)); e != api.OK || !frac.Same(x, rat(1, 2)) {
		t.Error(x, e)
	}
	deep := poly(1)
	for range 41 {
		deep = qpoly.Mul(deep, poly(0, 1))
	}
	long := fun(poly(1), deep)
	if x, e := Definite(fun(poly(1), deep[1:]), rat(1, 1), rat(1, 1)); e != api.OK || frac.Sign(x) != 0 {
		t.Error(x, e)
	}
	for i, c := range []struct {
		f    api.RatFun
		a, b api.Rat
		e    api.Errno
	}{
		{long, rat(1, 1), rat(0, 1), api.ErrArg}, {long, rat(0, 1), rat(1, 1), api.ErrRange}, {f, rat(-1, 1), rat(1, 1), api.ErrZero}, {f, rat(0, 1), rat(0, 1), api.ErrZero}, {f, rat(0, 1), rat(1, 1), api.ErrZero}, {f, rat(-1, 1), rat(0, 1), api.ErrZero},
		{fun(poly(1), poly(0, 1)), rat(0, 1), rat(1, 1), api.ErrZero}, {fun(poly(1), poly(0, 1)), rat(1, 1), rat(2, 1), api.ErrNone}, {fun(poly(1), poly(0, 1)), rat(1, 1), rat(1, 1), api.ErrNone},
	} {
		if x, e := Definite(c.f, c.a, c.b); e != c.e || len(x.Den.Mag) != 0 {
			t.Error(i, e)
		}
	}
	g := fun(poly(1), qpoly.Mul(poly(0, 0, 1), qpoly.Mul(poly(-2, 0, 1), poly(-3, 1))))
	for i, c := range []struct {
		a, b api.Rat
		n    int
		e    api.Errno
	}{{rat(-9, 1), rat(9, 1), 4, 0}, {rat(0, 1), rat(3, 1), 3, 0}, {rat(0, 1), rat(0, 1), 1, 0}, {rat(1, 1), rat(0, 1), 0, api.ErrArg}, {rat(4, 1), rat(5, 1), 0, 0}, {rat(3, 1), rat(5, 1), 1, 0}} {
		if n, e := Poles(g, c.a, c.b); n != c.n || e != c.e {
			t.Error(i, n, e)
		}
	}
}
