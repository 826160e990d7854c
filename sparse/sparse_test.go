package sparse

import (
	"math/rand"
	"slices"
	"testing"

	"algebrist/api"
	"algebrist/mono"
)

func TestKeysTellTheOrder(t *testing.T) {
	r := rand.New(rand.NewSource(1))
	for range 20000 {
		n := r.Intn(7)
		a, b := make([]int, n), make([]int, n)
		top := []int{2, 60}[r.Intn(2)]
		for i := range a {
			a[i], b[i] = r.Intn(top+1), r.Intn(top+1)
			if r.Intn(3) == 0 {
				a[i], b[i] = 60*r.Intn(2), 60*r.Intn(2)
			}
		}
		o := api.Order{Kind: r.Intn(4)}
		if o.Kind == api.Block {
			o.Cut = r.Intn(n + 1)
		}
		w := WeightsOf(n, o)
		x, y := w.MonoOf(a), w.MonoOf(b)
		want := mono.Cmp(o, a, b)
		if got := -falling(Term{Mono: x}, Term{Mono: y}); got != want {
			t.Fatal(o, a, b, got, want)
		}
		if x.Key < 0 || x.Divides(y) != mono.Divides(a, b) || !slices.Equal(x.Exponents(n), a) {
			t.Fatal(o, a, b)
		}
		p, ok := x.Times(y)
		q, e := mono.Mul(a, b)
		if ok != (e == api.OK) || ok && p != w.MonoOf(q) {
			t.Fatal("times", a, b)
		}
	}
}
