package sparse_test

import (
	"cmp"
	"math/rand"
	"slices"
	"testing"

	"algebrist/api"
	"algebrist/frac"
	"algebrist/mono"
	"algebrist/mpoly"
	. "algebrist/sparse"
	"algebrist/whole"
)

func TestKeysTellTheOrder(t *testing.T) {
	r := rand.New(rand.NewSource(1))
	for range 20000 {
		n := r.Intn(7)
		a, b := make([]int, n), make([]int, n)
		top := []int{2, 60}[r.Intn(2)]
		for i := range a {
			a[i], b[i] = r.Intn(top+1), r.Intn(top+1)
			if r.Intn(3) == 0 {
				a[i], b[i] = 60*r.Intn(2), 60*r.Intn(2)
			}
		}
		o := api.Order{Kind: r.Intn(4)}
		if o.Kind == api.Block {
			o.Cut = r.Intn(n + 1)
		}
		w := WeightsOf(n, o)
		x, y := w.MonoOf(a), w.MonoOf(b)
		want := mono.Cmp(o, a, b)
		if got := cmp.Compare(x.Key, y.Key); got != want {
			t.Fatal(o, a, b, got, want)
		}
		if x.Key < 0 || x.Divides(y) != mono.Divides(a, b) || !slices.Equal(x.Exponents(n), a) {
			t.Fatal(o, a, b)
		}
		p, ok := x.Times(y)
		q, e := mono.Mul(a, b)
		if ok != (e == api.OK) || ok && p != w.MonoOf(q) {
			t.Fatal("times", a, b)
		}
	}
}

func TestLess(t *testing.T) {
	r := rand.New(rand.NewSource(2))
	draw := func() api.MPoly {
		out := api.MPoly{N: 3}
		for range r.Intn(6) {
			e := []int{r.Intn(3), r.Intn(3), r.Intn(3)}
			c, _ := frac.Of(whole.Of(1+r.Intn(4)), whole.Of(1+r.Intn(3)))
			out = mpoly.Add(out, api.MPoly{N: 3, T: []api.Term{{E: e, C: c}}})
		}
		return out
	}
	for range 2000 {
		o := api.Order{Kind: r.Intn(4)}
		if o.Kind == api.Block {
			o.Cut = r.Intn(4)
		}
		w := WeightsOf(3, o)
		f, g, e := draw(), draw(), []int{r.Intn(3), r.Intn(3), r.Intn(3)}
		c, _ := frac.Of(whole.Of(r.Intn(9)-4), whole.Of(1+r.Intn(2)))
		if frac.Sign(c) == 0 {
			continue
		}
		p, _ := mpoly.Mul(g, api.MPoly{N: 3, T: []api.Term{{E: e, C: c}}})
		left := w.Of(f).Less(c, w.MonoOf(e), w.Of(g))
		for i := range left {
			if i > 0 && left[i-1].Key <= left[i].Key {
				t.Fatal("falling")
			}
		}
		if got := left.MPoly(3); !mpoly.Same(got, mpoly.Sub(f, p)) {
			t.Fatal(f, g, got)
		}
		a, b := w.MonoOf(e), w.MonoOf([]int{1, 2, 0})
		q, _ := a.Times(b)
		if q.Over(b) != a {
			t.Fatal("over")
		}
		most := w.Of(f).Reach().Exponents(3)
		for _, term := range f.T {
			for i, x := range term.E {
				if x > most[i] {
					t.Fatal("reach")
				}
			}
		}
	}
}
