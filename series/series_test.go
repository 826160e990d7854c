package series

import (
	"math"
	"math/rand"
	"testing"

	"algebrist/api"
	"algebrist/frac"
	"algebrist/qpoly"
	"algebrist/ratfun"
	"algebrist/whole"
)

func rat(n, d int) api.Rat {
	a, _ := frac.Of(whole.Of(n), whole.Of(d))
	return a
}

func poly(l ...int) api.QPoly {
	out := make(api.QPoly, len(l))
	for i, n := range l {
		out[i] = rat(n, 1)
	}
	return qpoly.Add(out, nil)
}

func draw(r *rand.Rand, n int) api.QPoly {
	out := make(api.QPoly, r.Intn(n+1))
	for i := range out {
		out[i] = rat(r.Intn(7)-3, 1+r.Intn(3))
	}
	return qpoly.Add(out, nil)
}

func from(c api.Rat, a api.QPoly) api.QPoly {
	return qpoly.Add(qpoly.Mul(a, poly(0, 1)), qpoly.Scale(poly(1), c))
}

func ok(t *testing.T) func(a api.QPoly, e api.Errno) api.QPoly {
	return func(a api.QPoly, e api.Errno) api.QPoly {
		t.Helper()
		if e != api.OK || !qpoly.Right(a) {
			t.Fatal(a, e)
		}
		return a
	}
}

// P34.1, P34.3
func TestLaws(t *testing.T) {
	r := rand.New(rand.NewSource(1))
	good := ok(t)
	for range 120 {
		n := r.Intn(12)
		a, b := draw(r, 14), draw(r, 14)
		one, x := cut(poly(1), n), cut(poly(0, 1), n)
		if !qpoly.Same(good(Mul(a, b, n)), cut(qpoly.Mul(a, b), n)) {
			t.Fatal("mul")
		}
		u, v := from(rat(1, 1), a), from(rat(1, 1), b)
		if p := good(Mul(u, good(Inv(u, n)), n)); !qpoly.Same(p, one) {
			t.Fatal("inv", u, n)
		}
		f, g := from(rat(0, 1), a), from(rat(0, 1), b)
		if n > 0 && !qpoly.Same(good(Log(good(Exp(f, n)), n)), cut(f, n)) {
			t.Fatal("log of exp", f, n)
		}
		if n > 0 && !qpoly.Same(good(Exp(good(Log(u, n)), n)), cut(u, n)) {
			t.Fatal("exp of log", u, n)
		}
		if !qpoly.Same(good(Log(qpoly.Mul(u, v), n)), qpoly.Add(good(Log(u, n)), good(Log(v, n)))) {
			t.Fatal("logarithms of products")
		}
		if !qpoly.Same(good(Exp(qpoly.Add(f, g), n)), good(Mul(good(Exp(f, n)), good(Exp(g, n)), n))) {
			t.Fatal("exponentials of sums")
		}
		if !qpoly.Same(good(Compose(a, g, n)), cut(qpoly.Compose(cut(a, n), cut(g, n)), n)) {
			t.Fatal("compose")
		}
		h := from(rat(0, 1), from(rat(1+r.Intn(3), 2), a))
		back := good(Revert(h, n))
		if !qpoly.Same(good(Compose(h, back, n)), x) || !qpoly.Same(good(Compose(back, h, n)), x) || frac.Sign(at(back, 0)) != 0 {
			t.Fatal("revert", h, n, back)
		}
		less := r.Intn(n + 1)
		for _, pair := range [][2]api.QPoly{{good(Inv(u, n)), good(Inv(u, less))}, {good(Log(u, n)), good(Log(u, less))}, {good(Exp(f, n)), good(Exp(f, less))}, {back, good(Revert(h, less))}, {good(Compose(a, g, n)), good(Compose(a, g, less))}} {
			if !qpoly.Same(cut(pair[0], less), pair[1]) {
				t.Fatal("to a lesser order", n, less)
			}
		}
		fun, _ := ratfun.New(b, u)
		if s := good(Of(fun, n)); !qpoly.Same(good(Mul(s, u, n)), cut(b, n)) {
			t.Fatal("of", fun, n)
		}
	}
	half := append(poly(1, 1), rat(1, 2))
	if !qpoly.Same(good(Exp(poly(0, 1), 3)), half) || !qpoly.Same(good(Of(api.RatFun{Num: poly(-1), Den: poly(-1, 1)}, 3)), poly(1, 1, 1)) {
		t.Error("examples")
	}
	if l := good(Log(poly(1, 1), 4)); !qpoly.Same(l, api.QPoly{rat(0, 1), rat(1, 1), rat(-1, 2), rat(1, 3)}) {
		t.Error(l)
	}
	if s := good(Revert(append(poly(0, 1), rat(1, 3)), 60)); len(s) != 60 {
		t.Error(len(s))
	}
}

func TestErrors(t *testing.T) {
	u, f, x2 := poly(1, 1), poly(0, 1), poly(0, 0, 1)
	for i, c := range []struct {
		do func(n int) (api.QPoly, api.Errno)
		e  api.Errno
	}{
		{func(n int) (api.QPoly, api.Errno) { return Of(api.RatFun{Num: u, Den: f}, n) }, api.ErrZero},
		{func(n int) (api.QPoly, api.Errno) { return Inv(f, n) }, api.ErrZero},
		{func(n int) (api.QPoly, api.Errno) { return Inv(nil, n) }, api.ErrZero},
		{func(n int) (api.QPoly, api.Errno) { return Log(f, n) }, api.ErrArg},
		{func(n int) (api.QPoly, api.Errno) { return Log(poly(2), n) }, api.ErrArg},
		{func(n int) (api.QPoly, api.Errno) { return Log(nil, n) }, api.ErrArg},
		{func(n int) (api.QPoly, api.Errno) { return Exp(u, n) }, api.ErrArg},
		{func(n int) (api.QPoly, api.Errno) { return Compose(f, u, n) }, api.ErrArg},
		{func(n int) (api.QPoly, api.Errno) { return Revert(u, n) }, api.ErrArg},
		{func(n int) (api.QPoly, api.Errno) { return Revert(x2, n) }, api.ErrArg},
		{func(n int) (api.QPoly, api.Errno) { return Revert(nil, n) }, api.ErrArg},
		{func(n int) (api.QPoly, api.Errno) { return Mul(u, f, n) }, api.OK},
		{func(n int) (api.QPoly, api.Errno) { return Exp(nil, n) }, api.OK},
		{func(n int) (api.QPoly, api.Errno) { return Compose(u, nil, n) }, api.OK},
	} {
		for _, n := range []int{-1, 61, math.MaxInt, math.MinInt} {
			if a, e := c.do(n); e != api.ErrRange || len(a) != 0 {
				t.Error(i, n, e)
			}
		}
		for _, n := range []int{0, 1, 60} {
			if a, e := c.do(n); e != c.e || e != api.OK && len(a) != 0 || n == 0 && len(a) != 0 {
				t.Error(i, n, e)
			}
		}
	}
}

// P34.2, P34.3
func TestPade(t *testing.T) {
	r := rand.New(rand.NewSource(2))
	none := 0
	for range 200 {
		a, m, k := draw(r, 9), r.Intn(5), r.Intn(5)
		f, e := Pade(a, m, k)
		if e == api.OK {
			if !ratfun.Right(f) || !HoldsPade(a, m, k, f) || HoldsPade(qpoly.Add(a, poly(1)), m, k, f) {
				t.Fatal(a, m, k, f)
			}
			continue
		}
		none++
		if e != api.ErrNone || len(f.Den) != 0 || solvable(a, m, k) {
			t.Fatal(a, m, k, e)
		}
	}
	if none == 0 {
		t.Error("none")
	}
	for range 100 {
		den := from(rat(1, 1), draw(r, 3))
		f, _ := ratfun.New(draw(r, 4), den)
		m, k := max(0, qpoly.Deg(f.Num))+r.Intn(2), qpoly.Deg(f.Den)+r.Intn(2)
		s, _ := Of(f, m+k+1)
		if g, e := Pade(s, m, k); e != api.OK || !ratfun.Same(f, g) {
			t.Fatal("comes back", f, g, e)
		}
	}
	for _, c := range [][2]int{{-1, 0}, {0, -1}, {60, 0}, {30, 30}, {math.MaxInt, 1}, {math.MaxInt, math.MaxInt}} {
		if f, e := Pade(poly(1), c[0], c[1]); e != api.ErrRange || len(f.Den) != 0 || HoldsPade(poly(1), c[0], c[1], api.RatFun{Num: poly(1), Den: poly(1)}) {
			t.Error(c, e)
		}
	}
	long, _ := Exp(poly(0, 1), 60)
	if f, e := Pade(long, 29, 30); e != api.OK || !HoldsPade(long, 29, 30, f) || qpoly.Deg(f.Den) != 30 {
		t.Error(e)
	}
	if f, e := Pade(nil, 0, 0); e != api.OK || len(f.Num) != 0 || !HoldsPade(nil, 0, 0, f) {
		t.Error(e)
	}
	if HoldsPade(poly(0, 1), 1, 1, api.RatFun{Num: poly(1), Den: poly(0, 1)}) || HoldsPade(poly(0, 0, 1), 1, 1, api.RatFun{Num: poly(0, 0, 1), Den: poly(1)}) {
		t.Error("holds")
	}
}

// solvable looks for a denominator 1 + q1 x + .. by elimination: there is an approximant just if the linear equations of its denominator have a solution with 1 at x^0.
func solvable(a api.QPoly, m, k int) bool {
	rows := make([][]api.Rat, 0, k)
	for i := m + 1; i <= m+k; i++ {
		row := make([]api.Rat, k+1)
		for j := 1; j <= k; j++ {
			row[j-1] = rat(0, 1)
			if i-j >= 0 {
				row[j-1] = at(a, i-j)
			}
		}
		row[k] = frac.Neg(at(a, i))
		rows = append(rows, row)
	}
	used := 0
	for col := range k {
		p := used
		for p < len(rows) && frac.Sign(rows[p][col]) == 0 {
			p++
		}
		if p == len(rows) {
			continue
		}
		rows[p], rows[used] = rows[used], rows[p]
		for i := used + 1; i < len(rows); i++ {
			c, _ := frac.Div(rows[i][col], rows[used][col])
			for j := range rows[i] {
				rows[i][j] = frac.Sub(rows[i][j], frac.Mul(c, rows[used][j]))
			}
		}
		used++
	}
	for _, row := range rows[used:] {
		if frac.Sign(row[k]) != 0 {
			return false
		}
	}
	return true
}
