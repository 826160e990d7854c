package field

import (
	"math/rand"
	"testing"

	"algebrist/api"
	"algebrist/frac"
	"algebrist/matrix"
	"algebrist/qpoly"
	"algebrist/whole"
)

func rat(n, d int) api.Rat {
	a, _ := frac.Of(whole.Of(n), whole.Of(d))
	return a
}

func poly(l ...int) api.QPoly {
	out := make(api.QPoly, len(l))
	for i, n := range l {
		out[i] = rat(n, 1)
	}
	return qpoly.Add(out, nil)
}

func draw(r *rand.Rand, n int) api.QPoly {
	out := make(api.QPoly, r.Intn(n+1))
	for i := range out {
		out[i] = rat(r.Intn(9)-4, 1+r.Intn(3))
	}
	return qpoly.Add(out, nil)
}

// modulus is a square-free one, that most often splits.
func modulus(r *rand.Rand) api.QPoly {
	for {
		m := poly(1)
		for range 1 + r.Intn(3) {
			m = qpoly.Mul(m, qpoly.Add(draw(r, 2), poly(0, 0, 1)))
		}
		m = qpoly.Monic(m)
		if Right(m) {
			return m
		}
	}
}

func drawF(r *rand.Rand, m api.QPoly, n int) api.FPoly {
	f := make([]api.QPoly, r.Intn(n+1))
	for i := range f {
		f[i] = draw(r, 3)
		if r.Intn(4) == 0 {
			// A divisor of 0.
			f[i] = qpoly.Mul(f[i], poly(-1, 1))
		}
	}
	return FReduce(m, f)
}

func same(f, g api.FPoly) bool {
	if len(f) != len(g) {
		return false
	}
	for i := range f {
		if !qpoly.Same(f[i], g[i]) {
			return false
		}
	}
	return true
}

// P23.1, P23.5
func TestNumbers(t *testing.T) {
	r := rand.New(rand.NewSource(1))
	for range 200 {
		m := modulus(r)
		a, b := draw(r, 6), draw(r, 6)
		if x := Reduce(m, a); qpoly.Deg(x) >= qpoly.Deg(m) || len(Reduce(m, qpoly.Sub(a, x))) != 0 {
			t.Fatal("reduce")
		}
		ab := Mul(m, a, b)
		if !qpoly.Same(ab, Reduce(m, qpoly.Mul(Reduce(m, a), Reduce(m, b)))) {
			t.Fatal("mul")
		}
		if !frac.Same(Norm(m, ab), frac.Mul(Norm(m, a), Norm(m, b))) {
			t.Fatal("norms multiply")
		}
		if !frac.Same(Norm(m, a), det(m, a)) {
			t.Fatal("norm", m, a)
		}
		inv, d, e := Inv(m, a)
		if (e == api.OK) != (frac.Sign(Norm(m, a)) != 0) {
			t.Fatal("inv", m, a)
		}
		if e == api.OK {
			if !qpoly.Same(Mul(m, inv, a), poly(1)) || !qpoly.Same(d, poly(1)) || qpoly.Deg(inv) >= qpoly.Deg(m) {
				t.Fatal("inv", m, a, inv)
			}
		} else if e != api.ErrNone || len(inv) != 0 || !qpoly.Same(d, qpoly.Gcd(a, m).G) {
			t.Fatal("divisor", m, a, d)
		}
	}
	m := poly(-2, 0, 1)
	if inv, d, e := Inv(m, poly(0, 1)); e != api.OK || !qpoly.Same(inv, api.QPoly{rat(0, 1), rat(1, 2)}) || !qpoly.Same(d, poly(1)) {
		t.Error(inv, d, e)
	}
	if !frac.Same(Norm(m, poly(1, 1)), rat(-1, 1)) {
		t.Error("norm")
	}
	if _, d, e := Inv(poly(-1, 0, 1), poly(-1, 1)); e != api.ErrNone || !qpoly.Same(d, poly(-1, 1)) {
		t.Error(d, e)
	}
	if inv, d, e := Inv(m, poly(-4, 0, 2)); e != api.ErrNone || !qpoly.Same(d, m) || len(inv) != 0 {
		t.Error(d, e)
	}
	for i, x := range []struct {
		m    api.QPoly
		want bool
	}{{nil, false}, {poly(1), false}, {poly(0, 1), true}, {poly(0, 2), false}, {poly(1, 2, 1), false}, {poly(-1, 0, 1), true}, {api.QPoly{{}, rat(1, 1)}, false}, {api.QPoly{rat(1, 3), rat(0, 1), rat(1, 1)}, true}} {
		if Right(x.m) != x.want {
			t.Error(i)
		}
	}
}

// det is the determinant of what multiplying by a does to 1, z, z^2 and so on.
func det(m, a api.QPoly) api.Rat {
	n := qpoly.Deg(m)
	out, _ := matrix.New(n, n)
	z := poly(1)
	for j := range n {
		for i, c := range Mul(m, z, a) {
			out, _ = matrix.Set(out, i, j, c)
		}
		z = Mul(m, z, poly(0, 1))
	}
	d, _ := matrix.Det(out)
	return d
}

// P23.2, P23.3
func TestPolynomials(t *testing.T) {
	r := rand.New(rand.NewSource(2))
	for range 150 {
		m := modulus(r)
		f, g, h := drawF(r, m, 4), drawF(r, m, 3), drawF(r, m, 3)
		if !same(FMul(m, FAdd(m, f, g), h), FAdd(m, FMul(m, f, h), FMul(m, g, h))) || !same(FMul(m, f, g), FMul(m, g, f)) {
			t.Fatal("ring")
		}
		if !same(FDiff(FMul(m, f, g)), FAdd(m, FMul(m, FDiff(f), g), FMul(m, f, FDiff(g)))) {
			t.Fatal("diff")
		}
		if p := FMul(m, f, g); len(p) > 0 && len(p[len(p)-1]) == 0 {
			t.Fatal("top")
		}
		monic := append(append(api.FPoly(nil), g...), poly(1))
		q, rest, e := FRem(m, f, monic)
		if e != api.OK || len(rest) >= len(monic) || !same(FAdd(m, FMul(m, q, monic), rest), f) {
			t.Fatal("rem", m, f, monic, q, rest)
		}
	}
	m := poly(-1, 0, 1)
	for _, g := range []api.FPoly{nil, {poly(0, 1)}, {poly(1), poly(2)}} {
		if q, rest, e := FRem(m, api.FPoly{poly(1)}, g); e != api.ErrArg || len(q)+len(rest) != 0 {
			t.Error(g, e)
		}
	}
}

// P23.4
func TestGcd(t *testing.T) {
	r := rand.New(rand.NewSource(3))
	for range 120 {
		m := modulus(r)
		h := drawF(r, m, 2)
		f, g := FMul(m, drawF(r, m, 2), h), FMul(m, drawF(r, m, 2), h)
		l, e := FGcd(m, f, g)
		product := poly(1)
		for _, b := range l {
			product = qpoly.Mul(product, b.M)
			checkBranch(t, b, FReduce(b.M, f), FReduce(b.M, g), FReduce(b.M, h))
		}
		if e != api.OK || !qpoly.Same(product, m) {
			t.Fatal(m, l)
		}
	}
	l, _ := FGcd(poly(-1, 0, 1), api.FPoly{poly(0, -1), poly(1)}, api.FPoly{poly(-1), poly(1)})
	if len(l) != 2 {
		t.Fatal(l)
	}
	for _, b := range l {
		want := api.FPoly{poly(1)}
		if qpoly.Same(b.M, poly(-1, 1)) {
			want = api.FPoly{poly(-1), poly(1)}
		}
		if !same(b.G, want) {
			t.Error(b)
		}
	}
	if l, _ := FGcd(poly(-2, 0, 1), nil, nil); len(l) != 1 || len(l[0].G) != 0 {
		t.Error(l)
	}
}

func checkBranch(t *testing.T, b api.Branch, f, g, h api.FPoly) {
	t.Helper()
	if !Right(b.M) {
		t.Fatal("modulus", b)
	}
	if len(b.G) == 0 {
		if len(f)+len(g) != 0 {
			t.Fatal("none, but both aren't 0", b)
		}
		return
	}
	for _, x := range []api.FPoly{f, g} {
		if _, rest, e := FRem(b.M, x, b.G); e != api.OK || len(rest) != 0 {
			t.Fatal("doesn't divide", b)
		}
	}
	// What divides both divides it: over an irreducible factor the degree is at least that of h there.
	if len(h) > 0 {
		if inv, _, e := Inv(b.M, h[len(h)-1]); e == api.OK {
			monic := FMul(b.M, h, api.FPoly{inv})
			if _, rest, _ := FRem(b.M, b.G, monic); len(rest) != 0 {
				t.Fatal("not the greatest", b, h)
			}
		}
	}
}
