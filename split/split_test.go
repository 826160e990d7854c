package split

import (
	"math/rand"
	"slices"
	"testing"

	"algebrist/api"
	"algebrist/degrees"
	"algebrist/ppoly"
)

func poly(p uint32, c ...uint32) api.PPoly {
	return ppoly.Add(api.PPoly{P: p}, api.PPoly{P: p, C: c})
}

func random(r *rand.Rand, p uint32, n int) api.PPoly {
	c := make([]uint32, r.Intn(n+1))
	for i := range c {
		c[i] = r.Uint32() % p
	}
	return poly(p, c...)
}

// P16.1, P16.2
func TestFactor(t *testing.T) {
	r := rand.New(rand.NewSource(1))
	for _, p := range []uint32{2, 3, 5, 13, 1<<31 - 1} {
		for range 120 {
			f := random(r, p, 8)
			for range r.Intn(3) {
				g := random(r, p, 3)
				f = ppoly.Mul(f, ppoly.Mul(g, g))
			}
			x, w, e := Factor(f, r.Uint64())
			if len(f.C) == 0 {
				if e != api.ErrZero || x.C != 0 || len(x.L)+len(w) != 0 {
					t.Fatal(e)
				}
				continue
			}
			if e != api.OK || !Holds(f, x, w) {
				t.Fatal(p, f, x)
			}
			y, _, _ := Factor(f, 7)
			if !sameFactors(x, y) {
				t.Fatal("hangs on the seed")
			}
			roots, e := Roots(f)
			if e != api.OK || !slices.Equal(roots, linear(x)) {
				t.Fatal("roots", p, f, roots)
			}
			for _, a := range roots {
				if ppoly.Value(f, a) != 0 {
					t.Fatal("no root")
				}
			}
			g := random(r, p, 5)
			if len(g.C) > 0 {
				z, _, _ := Factor(g, 1)
				both, _, _ := Factor(ppoly.Mul(f, g), 3)
				n := 0
				for _, q := range both.L {
					n += q.N
				}
				for _, q := range append(slices.Clone(x.L), z.L...) {
					n -= q.N
					if !slices.ContainsFunc(both.L, func(o api.PPower) bool { return ppoly.Same(o.F, q.F) && o.N >= q.N }) {
						t.Fatal("factors of a product")
					}
				}
				if n != 0 {
					t.Fatal("factors of a product")
				}
			}
		}
	}
}

func linear(x api.PFactors) []uint32 {
	var out []uint32
	for _, q := range x.L {
		if ppoly.Deg(q.F) == 1 {
			out = append(out, (q.F.P-q.F.C[0])%q.F.P)
		}
	}
	slices.Sort(out)
	return out
}

func sameFactors(x, y api.PFactors) bool {
	return x.C == y.C && slices.EqualFunc(x.L, y.L, func(a, b api.PPower) bool { return a.N == b.N && ppoly.Same(a.F, b.F) })
}

func TestEqual(t *testing.T) {
	r := rand.New(rand.NewSource(2))
	for _, p := range []uint32{2, 3, 7, 1<<31 - 1} {
		for range 40 {
			f := random(r, p, 9)
			_, f = ppoly.Monic(f)
			parts, e := degrees.Parts(f)
			if e != api.OK {
				if l, e := Equal(f, 1+r.Intn(4), 5); e != api.ErrArg || len(l) != 0 {
					t.Fatal(f, e)
				}
				continue
			}
			for i, g := range parts {
				l, e := Equal(g, i+1, r.Uint64())
				product := poly(p, 1)
				for k, h := range l {
					product = ppoly.Mul(product, h)
					if k > 0 && ppoly.Cmp(l[k-1], h) >= 0 || ppoly.Deg(h) != i+1 {
						t.Fatal(l)
					}
				}
				if e != api.OK || !ppoly.Same(product, g) {
					t.Fatal(g, l, e)
				}
				if ppoly.Deg(g) > 0 {
					if l, e := Equal(g, i+2, 0); e != api.ErrArg || len(l) != 0 {
						t.Fatal("another degree")
					}
				}
			}
		}
	}
	one := poly(5, 1)
	for _, d := range []int{1, 2, 1 << 40} {
		if l, e := Equal(one, d, 0); e != api.OK || len(l) != 0 {
			t.Error(d, e)
		}
	}
	for _, d := range []int{0, -1} {
		if _, e := Equal(one, d, 0); e != api.ErrArg {
			t.Error(d)
		}
	}
	for _, f := range []api.PPoly{poly(5), poly(5, 2), poly(5, 1, 2), poly(5, 1, 2, 1)} {
		if _, e := Equal(f, 1, 0); e != api.ErrArg {
			t.Error(f)
		}
	}
}

func TestExamples(t *testing.T) {
	x, w, _ := Factor(poly(2, 0, 1, 0, 0, 1), 0)
	if len(x.L) != 3 || !ppoly.Same(x.L[0].F, poly(2, 0, 1)) || !ppoly.Same(x.L[1].F, poly(2, 1, 1)) || !ppoly.Same(x.L[2].F, poly(2, 1, 1, 1)) || len(w) != 3 {
		t.Error(x)
	}
	x, _, _ = Factor(poly(5, 3, 0, 2), 0)
	if x.C != 2 || len(x.L) != 2 || !ppoly.Same(x.L[0].F, poly(5, 1, 1)) {
		t.Error(x)
	}
	if l, e := Roots(poly(5, 3, 0, 2)); e != api.OK || !slices.Equal(l, []uint32{1, 4}) {
		t.Error(l)
	}
	if l, e := Roots(poly(5)); e != api.ErrZero || len(l) != 0 {
		t.Error(l)
	}
	if l, e := Roots(poly(5, 3)); e != api.OK || len(l) != 0 {
		t.Error(l)
	}
	if l, e := Roots(poly(2, 0, 1, 1)); e != api.OK || !slices.Equal(l, []uint32{0, 1}) {
		t.Error(l)
	}
	if x, w, e := Factor(poly(5, 3), 0); e != api.OK || x.C != 3 || len(x.L)+len(w) != 0 || !Holds(poly(5, 3), x, w) {
		t.Error(x)
	}
}

func TestHolds(t *testing.T) {
	f := poly(5, 3, 0, 2)
	x, w, _ := Factor(f, 0)
	swapped := api.PFactors{C: 2, L: []api.PPower{x.L[1], x.L[0]}}
	for i, y := range []struct {
		f api.PPoly
		x api.PFactors
		w []api.PIrr
	}{
		{f, x, w[:1]}, {f, swapped, []api.PIrr{w[1], w[0]}}, {f, x, []api.PIrr{w[1], w[0]}},
		{f, api.PFactors{C: 7, L: x.L}, w}, {f, api.PFactors{C: 0, L: x.L}, w}, {f, api.PFactors{C: 3, L: x.L}, w},
		{poly(5), api.PFactors{C: 1}, nil}, {api.PPoly{P: 4, C: []uint32{1}}, api.PFactors{C: 1}, nil},
		{f, api.PFactors{C: 2, L: []api.PPower{{F: x.L[0].F, N: 0}, x.L[1]}}, w},
		{f, api.PFactors{C: 2, L: []api.PPower{{F: x.L[0].F, N: 1 << 62}, x.L[1]}}, w},
		{f, api.PFactors{C: 2, L: []api.PPower{{F: ppoly.Mul(x.L[0].F, x.L[1].F), N: 1}}}, []api.PIrr{{F: ppoly.Mul(x.L[0].F, x.L[1].F), W: []api.PBezout{{G: poly(5, 1), U: poly(5), V: poly(5)}}}}},
		{f, api.PFactors{C: 2, L: []api.PPower{x.L[0]}}, w[:1]},
		{poly(5, 1, 2, 1), api.PFactors{C: 1, L: []api.PPower{x.L[0], x.L[0]}}, []api.PIrr{w[0], w[0]}},
	} {
		if Holds(y.f, y.x, y.w) {
			t.Error(i)
		}
	}
	linear7, linear5 := poly(7, 1, 1), poly(5, 1, 1)
	if Holds(linear7, api.PFactors{C: 1, L: []api.PPower{{F: linear5, N: 1}}}, []api.PIrr{{F: linear5}}) || !Holds(linear7, api.PFactors{C: 1, L: []api.PPower{{F: linear7, N: 1}}}, []api.PIrr{{F: linear7}}) {
		t.Error("another prime")
	}
	if !Holds(poly(5, 1, 2, 1), api.PFactors{C: 1, L: []api.PPower{{F: x.L[0].F, N: 2}}}, w[:1]) {
		t.Error("twice")
	}
}
