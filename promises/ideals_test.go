package promises

import (
	"math/rand"
	"slices"
	"testing"

	"algebrist/api"
	"algebrist/frac"
	"algebrist/groebner"
	"algebrist/ideal"
	"algebrist/matrix"
	"algebrist/mpoly"
	"algebrist/whole"
	"algebrist/zerodim"
)

func drawM(r *rand.Rand, n, terms, top int) api.MPoly {
	out := api.MPoly{N: n}
	for range 1 + r.Intn(terms) {
		e := make([]int, n)
		for range r.Intn(top + 1) {
			e[r.Intn(n)]++
		}
		if c := whole.Of(r.Intn(9) - 4); whole.Sign(c) != 0 {
			out = mpoly.Add(out, api.MPoly{N: n, T: []api.Term{{E: e, C: frac.Whole(c)}}})
		}
	}
	return out
}

// P7
func TestIdeals(t *testing.T) {
	r := rand.New(rand.NewSource(6))
	for range 80 {
		l := []api.MPoly{drawM(r, 2, 4, 2), drawM(r, 2, 4, 2), drawM(r, 2, 3, 1)}
		o := api.Order{Kind: api.GrevLex}
		b, e := groebner.Make(l, o)
		other := []api.MPoly{mpoly.Sub(l[2], l[0]), l[0], mpoly.Add(l[1], mpoly.Scale(l[0], frac.Whole(whole.Of(3))))}
		c, _ := groebner.Make(other, o)
		if e != api.OK || !slices.EqualFunc(b.G, c.G, mpoly.Same) {
			t.Fatal("a basis doesn't hang on how an ideal is told", l)
		}
		for _, g := range b.G {
			co, in, _ := ideal.In(g, l)
			if !in || !ideal.HoldsIn(g, l, co) {
				t.Fatal("what is in has cofactors", l)
			}
		}
		_, one, _ := ideal.One(l)
		d, e := zerodim.Distinct(l)
		if e == api.OK && (d == 0) != one {
			t.Fatal("1 is in just where there is no common zero", l)
		}
		rest, e := ideal.Eliminate(l, 1)
		if e != api.OK {
			t.Fatal(e)
		}
		for _, f := range rest {
			if e := vanishes(l, f); !e {
				t.Fatal("what is eliminated", l, f)
			}
		}
	}
}

// vanishes says whether f is 0 at all zeros: modulo the ideal multiplying by it is nothing.
func vanishes(l []api.MPoly, f api.MPoly) bool {
	m, e := zerodim.Matrix(l, f)
	if e != api.OK {
		return true
	}
	return matrix.Rank(m) == 0
}

// P6: a system has a solution, or a row that shows that it has none, never both.
func TestNeverBoth(t *testing.T) {
	r := rand.New(rand.NewSource(7))
	for range 200 {
		a := api.Mat{R: r.Intn(4), C: r.Intn(4)}
		for range a.R * a.C {
			a.A = append(a.A, frac.Whole(whole.Of(r.Intn(5)-2)))
		}
		var b []api.Rat
		for range a.R {
			b = append(b, frac.Whole(whole.Of(r.Intn(3)-1)))
		}
		w, some, e := matrix.Solve(a, b)
		if e != api.OK || !matrix.Holds(a, b, w, some) || matrix.Holds(a, b, w, !some) {
			t.Fatal(a, b)
		}
		both := api.Linear{X: w.X, K: w.K, Y: w.Y}
		if both.Y == nil {
			both.Y = b
		}
		if len(b) > 0 && matrix.Holds(a, b, both, true) && matrix.Holds(a, b, both, false) {
			t.Fatal("both")
		}
	}
}
