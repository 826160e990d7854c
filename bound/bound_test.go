package bound

import (
	"math/rand"
	"testing"

	"algebrist/api"
	"algebrist/frac"
	"algebrist/whole"
	"algebrist/zpoly"
)

func poly(l ...int) api.ZPoly {
	out := make(api.ZPoly, len(l))
	for i, n := range l {
		out[i] = whole.Of(n)
	}
	return out
}

func is(t *testing.T, what string, got api.Int, want int) {
	t.Helper()
	if !whole.Same(got, whole.Of(want)) {
		t.Errorf("%s: got %v, want %v", what, got, want)
	}
}

// P11.1, P11.2, P11.3, P11.4
func TestBounds(t *testing.T) {
	f := poly(-3, 0, 2)
	is(t, "norm1", Norm1(f), 5)
	is(t, "norm2sq", Norm2Sq(f), 13)
	is(t, "normmax", NormMax(f), 3)
	is(t, "normmax", NormMax(poly(1, -9, 2)), 9)
	is(t, "factor", Factor(f), 32)
	is(t, "factor", Factor(poly(-5)), 30)
	is(t, "factor", Factor(poly(3, 4)), 48)
	is(t, "factor", Factor(poly(4, -3)), 36)
	for _, g := range []func(api.ZPoly) api.Int{Norm1, Norm2Sq, NormMax, Factor} {
		is(t, "of 0", g(nil), 0)
	}
	for i, x := range []struct {
		f    api.ZPoly
		want int
	}{{f, 3}, {poly(7), 1}, {poly(0, 5), 1}, {poly(4, 2), 3}, {poly(-5, 2), 4}, {poly(6, -3), 3}} {
		got, e := Roots(x.f)
		is(t, "roots", got, x.want)
		if e != api.OK {
			t.Error(i)
		}
	}
	if got, e := Roots(nil); e != api.ErrZero || len(got.Mag) != 0 {
		t.Error("roots of 0")
	}
	a, e := Apart(f)
	if e != api.OK || !frac.Right(a) {
		t.Error(a, e)
	}
	is(t, "apart", a.Num, 1)
	is(t, "apart", a.Den, 208)
	a, _ = Apart(poly(1, 1, 0, 1))
	is(t, "apart", a.Den, 243*9)
	for _, g := range []api.ZPoly{nil, poly(4), poly(1, 1)} {
		if a, e := Apart(g); e != api.ErrArg || len(a.Den.Mag) != 0 {
			t.Error(g)
		}
	}
	long := zpoly.Add(zpoly.Mono(whole.Of(1), 1000), poly(1))
	long = zpoly.Mul(long, zpoly.Mono(whole.Of(1), 3))
	if a, e := Apart(long); e != api.OK || !frac.Right(a) {
		t.Error("long")
	}
	two := whole.Of(2)
	p, _ := whole.Pow(two, 1000)
	if !whole.Same(Factor(long), whole.Mul(whole.Mul(p, whole.Of(8)), two)) {
		t.Error("long factor")
	}
}

// P11.5
func TestTheyAreBounds(t *testing.T) {
	r := rand.New(rand.NewSource(1))
	draw := func() api.ZPoly {
		f := make(api.ZPoly, 1+r.Intn(6))
		for i := range f {
			f[i] = whole.Of(r.Intn(41) - 20)
		}
		f[len(f)-1] = whole.Of(1 + r.Intn(5))
		return f
	}
	for range 1000 {
		f, g := draw(), draw()
		b := Factor(zpoly.Mul(f, g))
		if whole.Cmp(NormMax(f), b) > 0 || whole.Cmp(NormMax(g), b) > 0 {
			t.Fatal(f, g)
		}
		// Roots that are known: all less than the bound, and farther apart than Apart.
		a, c, d := r.Intn(60)-30, 1+r.Intn(30), 1+r.Intn(9)
		h := zpoly.Mul(poly(-a, d), poly(-a-c, d))
		most, _ := Roots(h)
		apart, _ := Apart(h)
		x, _ := frac.Of(whole.Of(max(a, -a, a+c, -a-c)), whole.Of(d))
		gap, _ := frac.Of(whole.Of(c), whole.Of(d))
		if frac.Cmp(x, frac.Whole(most)) >= 0 || frac.Cmp(gap, apart) <= 0 {
			t.Fatal(h)
		}
	}
}
