package buchberger_test

import (
	"math/rand"
	"slices"
	"testing"

	"algebrist/api"
	"algebrist/buchberger"
	"algebrist/frac"
	"algebrist/groebner"
	"algebrist/mpoly"
	"algebrist/whole"
)

func draw(r *rand.Rand, n, terms, top int) api.MPoly {
	out := api.MPoly{N: n}
	for range r.Intn(terms + 1) {
		e := make([]int, n)
		for range r.Intn(top + 1) {
			if n > 0 {
				e[r.Intn(n)]++
			}
		}
		c, _ := frac.Of(whole.Of(1+r.Intn(5)), whole.Of(1+r.Intn(2)))
		out = mpoly.Add(out, api.MPoly{N: n, T: []api.Term{{E: e, C: c}}})
	}
	return out
}

func TestBasis(t *testing.T) {
	r := rand.New(rand.NewSource(1))
	for range 300 {
		n := r.Intn(4)
		var l []api.MPoly
		for range r.Intn(4) {
			l = append(l, draw(r, n, 3, 3))
		}
		o := api.Order{Kind: r.Intn(4)}
		if o.Kind == api.Block {
			o.Cut = r.Intn(n + 1)
		}
		g, ok := buchberger.Basis(l, o)
		b, e := groebner.Make(l, o)
		if e == api.OK && (!ok || !slices.EqualFunc(g, b.G, mpoly.Same)) {
			t.Fatal(l, o, g, b.G)
		}
		if ok && buchberger.Short(g, o) && !groebner.Is(g, o) {
			t.Fatal("no basis", l, o, g)
		}
	}
	deep, _ := mpoly.Pow(mpoly.Var(2, 0), 31)
	flat, _ := mpoly.Pow(mpoly.Var(2, 0), 30)
	grevLex := api.Order{Kind: api.GrevLex}
	if buchberger.Short([]api.MPoly{deep}, grevLex) || !buchberger.Short([]api.MPoly{flat}, grevLex) || buchberger.Short([]api.MPoly{flat}, api.Order{}) || !buchberger.Short(nil, grevLex) {
		t.Error("short")
	}
}
