package degrees

import (
	"math/rand"
	"testing"

	"algebrist/api"
	"algebrist/ppoly"
)

func poly(p uint32, c ...uint32) api.PPoly {
	return ppoly.Add(api.PPoly{P: p}, api.PPoly{P: p, C: c})
}

// monics are all monic polynomials of a degree.
func monics(p uint32, n int) []api.PPoly {
	out := []api.PPoly{}
	c := make([]uint32, n+1)
	c[n] = 1
	for {
		out = append(out, poly(p, append([]uint32(nil), c...)...))
		i := 0
		for ; i < n; i++ {
			c[i]++
			if c[i] < p {
				break
			}
			c[i] = 0
		}
		if i == n {
			return out
		}
	}
}

// slowly says whether nothing of a lesser degree divides f.
func slowly(f api.PPoly) bool {
	for d := 1; 2*d <= ppoly.Deg(f); d++ {
		for _, g := range monics(f.P, d) {
			if _, r, _ := ppoly.DivMod(f, g); len(r.C) == 0 {
				return false
			}
		}
	}
	return ppoly.Deg(f) > 0
}

// P15.1, P15.2, P15.3, P15.4
func TestAllSmallOnes(t *testing.T) {
	for _, x := range []struct {
		p uint32
		n int
	}{{2, 7}, {3, 4}, {5, 3}, {7, 2}} {
		irr := map[int][]api.PPoly{}
		for n := 1; n <= x.n; n++ {
			for _, f := range monics(x.p, n) {
				w, e := Prove(f)
				if want := slowly(f); want != (e == api.OK) {
					t.Fatal(f, e)
				} else if want {
					irr[n] = append(irr[n], f)
					if !Holds(w) {
						t.Fatal("doesn't hold", w)
					}
				} else if e != api.ErrNone || len(w.F.C)+len(w.W) != 0 {
					t.Fatal(f, e)
				}
				checkParts(t, f)
				// Nothing that splits has a paper, whatever stands in it.
				if e != api.OK && Holds(forged(f)) {
					t.Fatal("forged", f)
				}
			}
		}
	}
}

func forged(f api.PPoly) api.PIrr {
	w := api.PIrr{F: f}
	for _, k := range lesser(ppoly.Deg(f)) {
		b := ppoly.Gcd(less(f, k), f)
		b.G = poly(f.P, 1)
		w.W = append(w.W, b)
	}
	return w
}

func checkParts(t *testing.T, f api.PPoly) {
	t.Helper()
	l, e := Parts(f)
	if ppoly.Deg(ppoly.Gcd(f, ppoly.Diff(f)).G) > 0 {
		if e != api.ErrArg || len(l) != 0 {
			t.Fatal(f, e)
		}
		return
	}
	product := poly(f.P, 1)
	for i, part := range l {
		product = ppoly.Mul(product, part)
		if ppoly.Deg(part)%(i+1) != 0 {
			t.Fatal(f, l)
		}
		for d := 1; d <= i+1; d++ {
			found := 0
			for _, g := range monics(f.P, d) {
				if _, r, _ := ppoly.DivMod(part, g); len(r.C) == 0 && slowly(g) {
					found++
				}
			}
			if d <= i && found > 0 || d == i+1 && found != ppoly.Deg(part)/d {
				t.Fatal(f, l, d, found)
			}
		}
	}
	if !ppoly.Same(product, f) || e != api.OK || len(l) > 0 && ppoly.Deg(l[len(l)-1]) == 0 {
		t.Fatal(f, l)
	}
}

func TestEdges(t *testing.T) {
	if l, e := Parts(poly(5, 1)); e != api.OK || len(l) != 0 {
		t.Error("1")
	}
	for _, f := range []api.PPoly{poly(5), poly(5, 2), poly(5, 1, 2), poly(5, 1, 2, 1)} {
		if l, e := Parts(f); e != api.ErrArg || len(l) != 0 {
			t.Error(f, e)
		}
	}
	for _, f := range []api.PPoly{poly(5), poly(5, 1), poly(5, 1, 2)} {
		if w, e := Prove(f); e != api.ErrArg || w.F.P != 0 {
			t.Error(f, e)
		}
	}
	l, _ := Parts(poly(2, 0, 1, 0, 0, 1))
	if len(l) != 2 || !ppoly.Same(l[0], poly(2, 0, 1, 1)) || !ppoly.Same(l[1], poly(2, 1, 1, 1)) {
		t.Error(l)
	}
	if Holds(api.PIrr{}) || Holds(api.PIrr{F: poly(5, 1)}) || Holds(api.PIrr{F: poly(5)}) || Holds(api.PIrr{F: api.PPoly{P: 4, C: []uint32{0, 1}}}) || !Holds(api.PIrr{F: poly(5, 3, 1)}) || Holds(api.PIrr{F: poly(5, 3, 2)}) {
		t.Error("holds of degree 1")
	}
	w, _ := Prove(poly(2, 1, 1, 1))
	if !Holds(w) || Holds(api.PIrr{F: w.F}) || Holds(api.PIrr{F: w.F, W: append(w.W, w.W...)}) {
		t.Error("as many as primes")
	}
	w.W[0].U = ppoly.Add(w.W[0].U, poly(2, 1))
	if Holds(w) {
		t.Error("another U")
	}
}

func TestGreat(t *testing.T) {
	r := rand.New(rand.NewSource(1))
	for _, p := range []uint32{2, 101, 1<<31 - 1} {
		for range 4 {
			c := make([]uint32, 41)
			for i := range c {
				c[i] = r.Uint32() % p
			}
			c[40] = 1
			f := poly(p, c...)
			w, e := Prove(f)
			if e == api.OK && !Holds(w) {
				t.Fatal(p)
			}
			if l, e2 := Parts(f); e2 == api.OK && (e == api.OK) != (len(l) == 40 && ppoly.Deg(l[39]) == 40) {
				t.Fatal(p, e)
			}
		}
	}
}
