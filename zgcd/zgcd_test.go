package zgcd

import (
	"math/rand"
	"testing"

	"algebrist/api"
	"algebrist/ppoly"
	"algebrist/qpoly"
	"algebrist/whole"
	"algebrist/zpoly"
)

func poly(l ...int) api.ZPoly {
	out := make(api.ZPoly, len(l))
	for i, n := range l {
		out[i] = whole.Of(n)
	}
	return zpoly.Add(out, nil)
}

func draw(r *rand.Rand, n, size int) api.ZPoly {
	out := make(api.ZPoly, r.Intn(n+1))
	for i := range out {
		out[i] = whole.Of(r.Intn(2*size+1) - size)
		if r.Intn(4) == 0 {
			out[i], _ = whole.Pow(out[i], 5)
		}
	}
	return zpoly.Add(out, nil)
}

// P13.1, P13.2
func TestGcd(t *testing.T) {
	r := rand.New(rand.NewSource(1))
	for i := range 600 {
		n, size := 6, 9
		if i%50 == 0 {
			n, size = 30, 1<<30
		}
		h := draw(r, n, size)
		f, g := zpoly.Mul(draw(r, n, size), h), zpoly.Mul(draw(r, n, size), h)
		w := Gcd(f, g)
		if !Holds(f, g, w) {
			t.Fatal(f, g, w)
		}
		if len(h) > 0 && len(w.G) > 0 && !divides(h, w.G) {
			t.Fatal("what divides both divides the gcd")
		}
		if !zpoly.Same(w.G, List([]api.ZPoly{f, g})) {
			t.Fatal("list")
		}
		q := qpoly.Gcd(qpoly.From(f), qpoly.From(g)).G
		if !qpoly.Same(q, qpoly.Monic(qpoly.From(w.G))) {
			t.Fatal("over the rationals")
		}
		k := draw(r, 4, 5)
		times := zpoly.Mul(w.G, k)
		if whole.Sign(zpoly.Lead(times)) < 0 {
			times = zpoly.Neg(times)
		}
		if !zpoly.Same(Gcd(zpoly.Mul(f, k), zpoly.Mul(g, k)).G, times) {
			t.Fatal("times")
		}
	}
}

func TestEdges(t *testing.T) {
	for i, x := range [][3]api.ZPoly{{poly(-4, 0, 4), poly(6, 6), poly(2, 2)}, {nil, poly(-3), poly(3)}, {poly(0, -2), nil, poly(0, 2)}, {poly(6), poly(-4), poly(2)}, {poly(4), poly(6, 2), poly(2)}, {poly(1, -1), poly(1, -1), poly(-1, 1)}} {
		w := Gcd(x[0], x[1])
		if !zpoly.Same(w.G, x[2]) || !Holds(x[0], x[1], w) {
			t.Error(i, w)
		}
	}
	w := Gcd(nil, nil)
	if len(w.G)+len(w.A)+len(w.B)+len(w.W.G.C) != 0 || w.W.G.P != 0 || !Holds(nil, nil, w) {
		t.Error("0 and 0")
	}
	if !Holds(nil, nil, api.ZGcd{W: api.PBezout{G: api.PPoly{P: 4}}}) || Holds(nil, nil, api.ZGcd{A: poly(1)}) || Holds(nil, nil, api.ZGcd{G: poly(1)}) {
		t.Error("0 and 0 hold")
	}
	if len(List(nil)) != 0 || len(List([]api.ZPoly{nil, nil})) != 0 || !zpoly.Same(List([]api.ZPoly{poly(0, -4)}), poly(0, 4)) || !zpoly.Same(List([]api.ZPoly{poly(0, 4), poly(6), nil, poly(0, 0, 10)}), poly(2)) {
		t.Error("list")
	}
	// firstPrime divides one leading coefficient; images by it have a common root that isn't one.
	f, g := poly(1, firstPrime), poly(-1, 1)
	if w := Gcd(f, g); !Holds(f, g, w) || zpoly.Deg(w.G) != 0 {
		t.Error(w)
	}
	f, g = poly(firstPrime, 1), poly(0, 1)
	if w := Gcd(f, g); !Holds(f, g, w) || zpoly.Deg(w.G) != 0 {
		t.Error(w)
	}
	f, g = poly(firstPrime), poly(0, firstPrime, firstPrime)
	if w := Gcd(f, g); !Holds(f, g, w) || !zpoly.Same(w.G, f) {
		t.Error(w)
	}
}

func TestHolds(t *testing.T) {
	f, g := poly(-4, 0, 4), poly(6, 6)
	by := func(p uint32, d, a, b api.ZPoly) api.ZGcd {
		return api.ZGcd{G: d, A: a, B: b, W: ppoly.Gcd(ppoly.From(p, a), ppoly.From(p, b))}
	}
	for i, x := range []struct {
		w    api.ZGcd
		want bool
	}{
		{by(5, poly(2, 2), poly(-2, 2), poly(3)), true},
		{by(3, poly(2, 2), poly(-2, 2), poly(3)), false}, // image of 3 is 0, but x - 1 isn't 1
		{by(2, poly(2, 2), poly(-2, 2), poly(3)), true},  // 2 divides one leading coefficient alone
		{by(5, poly(-2, -2), poly(2, -2), poly(-3)), false},
		{by(5, poly(1, 1), poly(-4, 4), poly(6)), false},
		{by(7, poly(2), poly(-2, 0, 2), poly(3, 3)), false},
		{by(5, poly(2, 2), poly(-2, 2), poly(4)), false},
		{api.ZGcd{G: poly(2, 2), A: poly(-2, 2), B: poly(3)}, false},
		{by(5, poly(2, 2), poly(-2, 2), poly(1)), false}, {by(5, poly(2, 2), poly(1, 2), poly(3)), false},
		{api.ZGcd{}, false},
	} {
		if Holds(f, g, x.w) != x.want {
			t.Error(i)
		}
	}
	w := by(5, poly(2, 2), poly(-2, 2), poly(3))
	w.W.G.P = 4
	if Holds(f, g, w) {
		t.Error("no prime")
	}
	w = by(5, poly(2, 2), poly(-2, 2), poly(3))
	w.W.U = ppoly.Add(w.W.U, ppoly.From(5, poly(1)))
	if Holds(f, g, w) || Holds(api.ZPoly{whole.Of(0)}, g, w) {
		t.Error("another U")
	}
	// By 3 both leading coefficients are gone, and the images are coprime.
	a, b := zpoly.Mul(poly(1, 3), poly(1, 1)), zpoly.Mul(poly(1, 3), poly(2, 1))
	if Holds(a, b, by(5, poly(1), a, b)) || Holds(a, b, api.ZGcd{G: poly(1), A: a, B: b, W: ppoly.Gcd(ppoly.From(3, a), ppoly.From(3, b))}) {
		t.Error("leading coefficients")
	}
}

// Primes that tell too much, or nothing.
func TestBadPrimes(t *testing.T) {
	second := int(next(firstPrime))
	h := poly(5, 3, 2)
	for i, x := range []struct{ a, b, h api.ZPoly }{
		{poly(1, 1), poly(2, 1), poly(1, firstPrime)}, {poly(0, 1), poly(firstPrime, 1), h}, {poly(0, 1), poly(second, 1), h}, {poly(0, 1), poly(second, 1), poly(1, second)},
		{poly(1, firstPrime), poly(3, 2*firstPrime), poly(1)}, {poly(1, firstPrime), poly(3, 2*firstPrime), h}, {poly(firstPrime), poly(0, firstPrime+1), h},
	} {
		f, g := zpoly.Mul(x.a, x.h), zpoly.Mul(x.b, x.h)
		if w := Gcd(f, g); !Holds(f, g, w) || !zpoly.Same(w.G, x.h) {
			t.Error(i, w.G)
		}
	}
}
