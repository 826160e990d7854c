package solve

import (
	"math"
	"math/rand"
	"slices"
	"testing"

	"algebrist/api"
	"algebrist/frac"
	"algebrist/mpoly"
	"algebrist/realalg"
	"algebrist/sturm"
	"algebrist/whole"
	"algebrist/zpoly"
)

func rat(n, d int) api.Rat {
	a, _ := frac.Of(whole.Of(n), whole.Of(d))
	return a
}

func zp(l ...int) api.ZPoly {
	out := make(api.ZPoly, len(l))
	for i, n := range l {
		out[i] = whole.Of(n)
	}
	return zpoly.Add(out, nil)
}

func poly(n int, terms ...[]int) api.MPoly {
	out := api.MPoly{N: n}
	for _, x := range terms {
		out = mpoly.Add(out, api.MPoly{N: n, T: []api.Term{{E: x[1:], C: rat(x[0], 1)}}})
	}
	return out
}

// P35.1, P35.3
func TestRoots(t *testing.T) {
	r := rand.New(rand.NewSource(1))
	draw := func(n int) api.ZPoly {
		f := make(api.ZPoly, 1+r.Intn(n))
		for i := range f {
			f[i] = whole.Of(r.Intn(13) - 6)
		}
		return zpoly.Add(f, nil)
	}
	for range 100 {
		f, g := draw(5), draw(4)
		f = zpoly.Mul(f, zpoly.Mul(g, g))
		h := draw(4)
		if len(f) == 0 || len(h) == 0 {
			continue
		}
		roots, times, e := Roots(f)
		n, _ := sturm.All(f)
		if e != api.OK || len(roots) != n || len(times) != n {
			t.Fatal(f, roots, e)
		}
		for i, a := range roots {
			if b, _ := realalg.Root(f, i); !realalg.Same(a, b) || !realalg.Right(a) {
				t.Fatal(f, i)
			}
			d := f
			for range times[i] {
				if realalg.Sign(d, a) != 0 {
					t.Fatal("how often", f, i)
				}
				d = zpoly.Diff(d)
			}
			if realalg.Sign(d, a) == 0 {
				t.Fatal("how often", f, i)
			}
		}
		other, often, _ := Roots(h)
		both, sum, _ := Roots(zpoly.Mul(f, h))
		count := func(l []api.Alg, n []int, a api.Alg) int {
			for i, b := range l {
				if realalg.Same(a, b) {
					return n[i]
				}
			}
			return 0
		}
		for i, a := range both {
			if sum[i] != count(roots, times, a)+count(other, often, a) {
				t.Fatal("product", f, h)
			}
		}
	}
	roots, times, _ := Roots(zp(0, 0, -2, 1))
	if len(roots) != 2 || !slices.Equal(times, []int{2, 1}) || !realalg.Same(roots[0], realalg.Of(rat(0, 1))) || !realalg.Same(roots[1], realalg.Of(rat(2, 1))) {
		t.Error(roots, times)
	}
	long, _ := whole.Pow(whole.Of(2), 900)
	for i, c := range []struct {
		f api.ZPoly
		e api.Errno
	}{{nil, api.ErrZero}, {zpoly.Mono(whole.Of(1), 41), api.ErrRange}, {api.ZPoly{long, whole.Of(1)}, api.ErrRange}, {zp(5), api.OK}} {
		if l, n, e := Roots(c.f); e != c.e || len(l)+len(n) != 0 {
			t.Error(i, e)
		}
	}
}

// P35.2, P35.3
func TestPoints(t *testing.T) {
	r := rand.New(rand.NewSource(2))
	for range 60 {
		// Both polynomials are 0 at some points that are known.
		var f, g api.MPoly = poly(2, []int{1, 0, 0}), poly(2, []int{1, 0, 0})
		var want [][2]int
		for range 1 + r.Intn(2) {
			a, b := r.Intn(7)-3, r.Intn(7)-3
			want = append(want, [2]int{a, b})
			u := poly(2, []int{1 + r.Intn(3), 1, 0}, []int{r.Intn(5) - 2, 0, 1})
			v := poly(2, []int{r.Intn(5) - 2, 1, 0}, []int{1 + r.Intn(3), 0, 1})
			point := []api.Rat{rat(a, 1), rat(b, 1)}
			x, _ := mpoly.Value(u, point)
			y, _ := mpoly.Value(v, point)
			f, _ = mpoly.Mul(f, mpoly.Sub(u, mpoly.Const(2, x)))
			g, _ = mpoly.Mul(g, mpoly.Sub(v, mpoly.Const(2, y)))
		}
		l := []api.MPoly{f, g}
		points, e := Points(l)
		if e == api.ErrNone {
			continue
		}
		if e != api.OK {
			t.Fatal(l, e)
		}
		for i, p := range points {
			for _, h := range l {
				if v, e := mpoly.Value(h, p); e != api.OK || frac.Sign(v) != 0 {
					t.Fatal("no zero", l, p)
				}
			}
			if i > 0 && slices.CompareFunc(points[i-1], p, frac.Cmp) >= 0 {
				t.Fatal("rising", points)
			}
			for k := range p {
				values, e := Values(l, k)
				if e != api.OK || !slices.ContainsFunc(values, func(a api.Alg) bool { return realalg.Same(a, realalg.Of(p[k])) }) {
					t.Fatal("among its values", l, p)
				}
			}
		}
		for _, w := range want {
			if !slices.ContainsFunc(points, func(p []api.Rat) bool { return frac.Same(p[0], rat(w[0], 1)) && frac.Same(p[1], rat(w[1], 1)) }) {
				t.Fatal("left out", l, w)
			}
		}
	}
	l := []api.MPoly{poly(2, []int{1, 2, 0}, []int{1, 0, 2}, []int{-5, 0, 0}), poly(2, []int{1, 1, 1}, []int{-2, 0, 0})}
	points, _ := Points(l)
	want := [][2]int{{-2, -1}, {-1, -2}, {1, 2}, {2, 1}}
	if len(points) != 4 {
		t.Fatal(points)
	}
	for i, p := range points {
		if !frac.Same(p[0], rat(want[i][0], 1)) || !frac.Same(p[1], rat(want[i][1], 1)) {
			t.Error(points)
		}
	}
	if v, e := Values(l, 1); e != api.OK || len(v) != 4 {
		t.Error(v, e)
	}
}

func TestEdges(t *testing.T) {
	x, z := mpoly.Var(2, 0), mpoly.Var(3, 0)
	y := mpoly.Var(2, 1)
	deep, _ := mpoly.Pow(x, 41)
	for i, c := range []struct {
		l []api.MPoly
		i int
		e api.Errno
	}{{nil, 0, api.ErrArg}, {[]api.MPoly{x, z}, 0, api.ErrArg}, {[]api.MPoly{x}, 0, api.ErrNone}, {[]api.MPoly{{N: 2}}, 1, api.ErrNone}, {[]api.MPoly{deep, y}, 0, api.ErrRange}} {
		if p, e := Points(c.l); e != c.e || len(p) != 0 {
			t.Error(i, e)
		}
		if p, e := Values(c.l, c.i); e != c.e || len(p) != 0 {
			t.Error(i, e)
		}
	}
	for _, i := range []int{-1, 2, math.MaxInt} {
		if _, e := Values([]api.MPoly{x, y}, i); e != api.ErrArg {
			t.Error(i, e)
		}
	}
	if v, e := Values([]api.MPoly{deep, y}, 1); e != api.OK || len(v) != 1 {
		t.Error(v, e)
	}
	if p, e := Points([]api.MPoly{poly(2, []int{1, 0, 0})}); e != api.OK || len(p) != 0 {
		t.Error(p, e)
	}
	if p, e := Points([]api.MPoly{{N: 0}}); e != api.OK || len(p) != 1 || len(p[0]) != 0 {
		t.Error(p, e)
	}
	if p, e := Points([]api.MPoly{poly(0, []int{1})}); e != api.OK || len(p) != 0 {
		t.Error(p, e)
	}
	if p, e := Points([]api.MPoly{poly(1, []int{1, 2}, []int{-2, 0})}); e != api.OK || len(p) != 0 {
		t.Error(p, e)
	}
}
