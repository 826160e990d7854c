// Package promises holds tests of what the document promises of the whole, over several layers.
package promises

import (
	"math/rand"
	"testing"

	"algebrist/api"
	"algebrist/ppoly"
	"algebrist/qpoly"
	"algebrist/split"
	"algebrist/subres"
	"algebrist/whole"
	"algebrist/yun"
	"algebrist/zassen"
	"algebrist/zgcd"
	"algebrist/zpoly"
)

func zp(l ...int) api.ZPoly {
	out := make(api.ZPoly, len(l))
	for i, n := range l {
		out[i] = whole.Of(n)
	}
	return zpoly.Add(out, nil)
}

func drawZ(r *rand.Rand, n, size int) api.ZPoly {
	out := make(api.ZPoly, 1+r.Intn(n))
	for i := range out {
		out[i] = whole.Of(r.Intn(2*size+1) - size)
	}
	return zpoly.Add(out, nil)
}

// P3: over a prime a product's factors are the images' factors.
func TestFactorsOverPrimes(t *testing.T) {
	r := rand.New(rand.NewSource(1))
	for range 60 {
		f := zpoly.Mul(drawZ(r, 5, 9), drawZ(r, 5, 9))
		if len(f) == 0 {
			continue
		}
		x, _, e := zassen.Factor(f)
		if e != api.OK {
			t.Fatal(e)
		}
		p := []uint32{2, 3, 101, 65537}[r.Intn(4)]
		image := ppoly.From(p, f)
		if len(image.C) == 0 {
			continue
		}
		want := map[string]int{}
		name := func(g api.PPoly) string { return string(append([]rune(nil), runes(g)...)) }
		for _, a := range x.L {
			y, _, e := split.Factor(ppoly.From(p, a.F), 1)
			if e != api.OK {
				t.Fatal(e)
			}
			for _, b := range y.L {
				want[name(b.F)] += a.N * b.N
			}
		}
		y, w, _ := split.Factor(image, 9)
		if !split.Holds(image, y, w) {
			t.Fatal("factors over a prime don't hold")
		}
		for _, b := range y.L {
			if want[name(b.F)] != b.N {
				t.Fatal(f, p)
			}
			delete(want, name(b.F))
		}
		if len(want) > 0 {
			t.Fatal(f, p)
		}
	}
}

func runes(g api.PPoly) []rune {
	var out []rune
	for _, c := range g.C {
		out = append(out, rune(c%50000), rune(c/50000), ',')
	}
	return out
}

// P4: all roads to a gcd meet.
func TestRoadsToAGcd(t *testing.T) {
	r := rand.New(rand.NewSource(2))
	for range 150 {
		h := drawZ(r, 4, 9)
		f, g := zpoly.Mul(drawZ(r, 5, 9), h), zpoly.Mul(drawZ(r, 5, 9), h)
		if zpoly.Deg(f) < 1 || zpoly.Deg(g) < 1 {
			continue
		}
		d := zgcd.Gcd(f, g).G
		if !qpoly.Same(qpoly.Monic(qpoly.From(d)), qpoly.Gcd(qpoly.From(f), qpoly.From(g)).G) {
			t.Fatal("rationals")
		}
		chain := subres.Chain(f, g)
		road := zpoly.Primitive(f)
		if zpoly.Deg(g) <= zpoly.Deg(f) {
			road = zpoly.Primitive(g)
		}
		for j := len(chain) - 1; j >= 0; j-- {
			if len(chain[j]) > 0 {
				road = zpoly.Primitive(chain[j])
			}
		}
		if !zpoly.Same(road, zpoly.Primitive(d)) {
			t.Fatal("subresultants", f, g, road, d)
		}
		x, _, _ := zassen.Factor(f)
		y, _, _ := zassen.Factor(g)
		common := zp(1)
		for _, a := range x.L {
			for _, b := range y.L {
				if zpoly.Same(a.F, b.F) {
					p, _ := zpoly.Pow(a.F, min(a.N, b.N))
					common = zpoly.Mul(common, p)
				}
			}
		}
		if !zpoly.Same(common, zpoly.Primitive(d)) {
			t.Fatal("factors")
		}
		if zero := whole.Sign(subres.Resultant(f, g)) == 0; zero != (zpoly.Deg(d) > 0) {
			t.Fatal("resultant")
		}
		disc, _ := subres.Discriminant(f)
		if (whole.Sign(disc) == 0) == yun.Free(f) {
			t.Fatal("discriminant")
		}
	}
}

// P2: nothing that splits has a paper, even one that was made for another polynomial.
func TestNothingThatSplits(t *testing.T) {
	r := rand.New(rand.NewSource(3))
	for range 60 {
		f := zpoly.Primitive(zpoly.Mul(drawZ(r, 4, 9), drawZ(r, 4, 9)))
		x, w, e := zassen.Factor(f)
		if e != api.OK || len(x.L) < 2 {
			continue
		}
		for _, p := range w {
			p.F = f
			if zassen.Irreducible(p) {
				t.Fatal(f)
			}
		}
	}
}
