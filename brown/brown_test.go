package brown

import (
	"math/rand"
	"testing"

	"algebrist/api"
	"algebrist/frac"
	"algebrist/mdiv"
	"algebrist/mpoly"
	"algebrist/whole"
)

func draw(r *rand.Rand, n, terms, top int) api.MPoly {
	out := api.MPoly{N: n}
	for range 1 + r.Intn(terms) {
		e := make([]int, n)
		for i := range e {
			e[i] = r.Intn(top + 1)
			if r.Intn(3) == 0 {
				e[i] = 0
			}
		}
		c, _ := frac.Of(whole.Of(r.Intn(19)-9), whole.Of(1+r.Intn(3)))
		if frac.Sign(c) != 0 {
			out = mpoly.Add(out, api.MPoly{N: n, T: []api.Term{{E: e, C: c}}})
		}
	}
	return out
}

func TestGcd(t *testing.T) {
	r := rand.New(rand.NewSource(1))
	lex := api.Order{Kind: api.Lex}
	for range 400 {
		n := r.Intn(5)
		terms, top := 1+r.Intn(6), 1+r.Intn(3)
		h, a, b := draw(r, n, terms, top), draw(r, n, terms, top), draw(r, n, terms, top)
		f, _ := mpoly.Mul(a, h)
		g, _ := mpoly.Mul(b, h)
		d := Gcd(f, g)
		if !mpoly.Right(d) || d.N != n {
			t.Fatal(f, g, d)
		}
		if len(f.T) == 0 && len(g.T) == 0 {
			if len(d.T) != 0 {
				t.Fatal("0 and 0")
			}
			continue
		}
		if lead, _ := mpoly.Lead(d, lex); !frac.Same(lead.C, frac.Whole(whole.Of(1))) {
			t.Fatal("monic", d)
		}
		for _, x := range []api.MPoly{f, g} {
			if q, e := mdiv.Divide(x, []api.MPoly{d}, lex); e != api.OK || len(q.R.T) != 0 {
				t.Fatal("doesn't divide", f, g, d)
			}
		}
		if len(h.T) > 0 {
			if q, e := mdiv.Divide(d, []api.MPoly{h}, lex); e != api.OK || len(q.R.T) != 0 {
				t.Fatal("not the greatest", f, g, h, d)
			}
		}
		if e := Gcd(g, f); !mpoly.Same(d, e) {
			t.Fatal("turned round")
		}
	}
}

func TestUnluckyPlaces(t *testing.T) {
	// x and x + (y - 1)(y - 2)(y - 3) have more in common at three places.
	n := 2
	x, y := mpoly.Var(n, 0), mpoly.Var(n, 1)
	p := mpoly.Const(n, frac.Whole(whole.Of(1)))
	for i := 1; i < 4; i++ {
		p, _ = mpoly.Mul(p, mpoly.Sub(y, mpoly.Const(n, frac.Whole(whole.Of(i)))))
	}
	f, _ := mpoly.Mul(mpoly.Add(x, p), mpoly.Add(x, y))
	g, _ := mpoly.Mul(mpoly.Sub(x, p), mpoly.Add(x, y))
	if d := Gcd(f, g); !mpoly.Same(d, mpoly.Add(x, y)) {
		t.Error(d)
	}
}

func TestGreat(t *testing.T) {
	r := rand.New(rand.NewSource(2))
	for _, n := range []int{3, 6} {
		h, a, b := draw(r, n, 20, 3), draw(r, n, 20, 3), draw(r, n, 20, 3)
		f, _ := mpoly.Mul(a, h)
		g, _ := mpoly.Mul(b, h)
		d := Gcd(f, g)
		if q, e := mdiv.Divide(d, []api.MPoly{h}, api.Order{Kind: api.Lex}); e != api.OK || len(q.R.T) != 0 {
			t.Error(n)
		}
	}
}

// Primes that tell too much, or nothing.
func TestBadPrimes(t *testing.T) {
	first := int(next(1 << 30))
	second := int(next(uint32(first)))
	x, y := mpoly.Var(2, 0), mpoly.Var(2, 1)
	number := func(n int) api.MPoly { return mpoly.Const(2, frac.Whole(whole.Of(n))) }
	times := func(f, g api.MPoly) api.MPoly { p, _ := mpoly.Mul(f, g); return p }
	h := mpoly.Add(times(x, y), mpoly.Add(times(number(7), y), number(1)))
	great := mpoly.Add(times(number(first), times(x, y)), number(3))
	long := mpoly.Add(h, times(number(first), times(number(first), number(first))))
	for i, c := range []struct{ a, b, h api.MPoly }{
		{mpoly.Add(x, y), mpoly.Add(mpoly.Add(x, y), number(first)), h}, {mpoly.Add(x, y), mpoly.Add(mpoly.Add(x, y), number(second)), h},
		{mpoly.Add(x, y), mpoly.Sub(x, y), great}, {mpoly.Add(x, y), mpoly.Sub(x, y), long}, {mpoly.Add(x, y), mpoly.Add(mpoly.Add(x, y), number(second)), long},
	} {
		d := Gcd(times(c.a, c.h), times(c.b, c.h))
		if !mpoly.Same(d, mpoly.Monic(c.h, api.Order{Kind: api.Lex})) {
			t.Error(i, d)
		}
	}
}
