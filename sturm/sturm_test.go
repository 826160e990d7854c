package sturm

import (
	"math/rand"
	"testing"

	"algebrist/api"
	"algebrist/frac"
	"algebrist/whole"
	"algebrist/zpoly"
)

func poly(l ...int) api.ZPoly {
	out := make(api.ZPoly, len(l))
	for i, n := range l {
		out[i] = whole.Of(n)
	}
	return zpoly.Add(out, nil)
}

func rat(n, d int) api.Rat {
	a, _ := frac.Of(whole.Of(n), whole.Of(d))
	return a
}

// known is a polynomial with known rational roots, and others that aren't real.
func known(r *rand.Rand) (api.ZPoly, []api.Rat) {
	f := poly(r.Intn(5) - 7)
	var roots []api.Rat
	for range r.Intn(5) {
		n, d := r.Intn(21)-10, 1+r.Intn(4)
		for range 1 + r.Intn(2) {
			f = zpoly.Mul(f, poly(-n, d))
		}
		fresh := true
		for _, x := range roots {
			fresh = fresh && !frac.Same(x, rat(n, d))
		}
		if fresh {
			roots = append(roots, rat(n, d))
		}
	}
	for range r.Intn(3) {
		b := r.Intn(5) - 2
		f = zpoly.Mul(f, poly(b*b+1+r.Intn(5), 2*b, 1))
	}
	return f, roots
}

// P20.1, P20.2, P20.3
func TestCounts(t *testing.T) {
	r := rand.New(rand.NewSource(1))
	for range 500 {
		f, roots := known(r)
		c, e := Make(f)
		if e != api.OK || !Holds(f, c) {
			t.Fatal("make", f)
		}
		if n, e := All(f); e != api.OK || n != len(roots) {
			t.Fatal("all", f, n)
		}
		a, b, m := rat(r.Intn(41)-20, 1+r.Intn(4)), rat(r.Intn(41)-20, 1+r.Intn(4)), rat(r.Intn(41)-20, 2)
		above, between := 0, 0
		onEnd := false
		for _, x := range roots {
			if frac.Cmp(x, a) > 0 {
				above++
				if frac.Cmp(x, b) <= 0 {
					between++
				}
			}
			onEnd = onEnd || frac.Same(x, a) || frac.Same(x, b)
		}
		if n, e := Above(f, a); e != api.OK || n != above {
			t.Fatal("above", f, a, n)
		}
		n, e := Count(f, a, b)
		if frac.Cmp(a, b) > 0 {
			if e != api.ErrArg || n != 0 {
				t.Fatal(e)
			}
			continue
		}
		if e != api.OK || n != between {
			t.Fatal("count", f, a, b, n, between)
		}
		if !onEnd && Changes(c, a)-Changes(c, b) != between {
			t.Fatal("changes", f, a, b)
		}
		if frac.Cmp(a, m) <= 0 && frac.Cmp(m, b) <= 0 {
			x, _ := Count(f, a, m)
			y, _ := Count(f, m, b)
			if x+y != n {
				t.Fatal("counts add up")
			}
		}
	}
	f := poly(0, -2, 0, 1)
	if n, _ := All(f); n != 3 {
		t.Error(n)
	}
	if n, _ := Above(f, rat(0, 1)); n != 1 {
		t.Error(n)
	}
	if n, _ := Count(f, rat(-1, 1), rat(0, 1)); n != 1 {
		t.Error(n)
	}
}

func TestErrors(t *testing.T) {
	if c, e := Make(nil); e != api.ErrZero || len(c.F)+len(c.S) != 0 {
		t.Error(e)
	}
	if _, e := All(nil); e != api.ErrZero {
		t.Error(e)
	}
	if _, e := Above(nil, rat(1, 1)); e != api.ErrZero {
		t.Error(e)
	}
	if _, e := Count(nil, rat(1, 1), rat(0, 1)); e != api.ErrArg {
		t.Error(e)
	}
	if _, e := Count(nil, rat(1, 1), rat(1, 1)); e != api.ErrZero {
		t.Error(e)
	}
	if n, e := Count(poly(0, 1), rat(0, 1), rat(0, 1)); e != api.OK || n != 0 {
		t.Error(n)
	}
	if n, e := All(poly(-4)); e != api.OK || n != 0 {
		t.Error(n)
	}
	if Changes(api.Chain{}, rat(1, 1)) != 0 || Changes(api.Chain{F: []api.ZPoly{poly(1), nil, poly(-1), poly(0, 1), poly(2)}}, rat(0, 1)) != 2 {
		t.Error("changes")
	}
}

func TestHolds(t *testing.T) {
	f := poly(-2, 0, 1)
	c, _ := Make(f)
	step := func(a, b int, q api.ZPoly) api.SturmStep {
		return api.SturmStep{A: whole.Of(a), B: whole.Of(b), Q: q}
	}
	for i, x := range []struct {
		f    api.ZPoly
		c    api.Chain
		want bool
	}{
		{f, c, true},
		{f, api.Chain{F: []api.ZPoly{f, poly(0, 2), poly(1)}, S: []api.SturmStep{step(2, 4, poly(0, 1)), step(1, 1, poly(0, 2))}}, true},
		{f, api.Chain{F: []api.ZPoly{f, poly(0, 2), poly(-1)}, S: []api.SturmStep{step(2, -4, poly(0, 1)), step(1, 1, poly(0, -2))}}, false},
		{f, api.Chain{F: []api.ZPoly{f, poly(0, 2), poly(-4)}, S: []api.SturmStep{step(-2, 1, poly(0, -1)), step(4, 1, poly(0, -2))}}, false},
		{f, api.Chain{F: []api.ZPoly{f, poly(0, 2), poly(1)}, S: []api.SturmStep{step(2, 4, poly(0, 1))}}, false},
		{f, api.Chain{F: []api.ZPoly{f, poly(0, 2)}, S: []api.SturmStep{step(2, 4, poly(0, 1))}}, false},
		{f, api.Chain{F: []api.ZPoly{f, poly(0, 1), poly(1)}, S: []api.SturmStep{step(1, 2, poly(0, 1)), step(1, 1, poly(0, 1))}}, false},
		{f, api.Chain{F: []api.ZPoly{f}}, false},
		{f, api.Chain{}, false}, {nil, api.Chain{}, false}, {nil, api.Chain{F: []api.ZPoly{nil}}, false},
		{poly(3), api.Chain{F: []api.ZPoly{poly(3)}}, true}, {poly(3), api.Chain{F: []api.ZPoly{poly(3), nil}, S: []api.SturmStep{step(1, 1, nil)}}, false},
		{append(f[:len(f):len(f)], whole.Of(0)), c, false},
		{f, api.Chain{F: []api.ZPoly{f, poly(0, 2), poly(1)}, S: []api.SturmStep{step(2, 4, poly(0, 1)), step(1, 0, poly(0, 2))}}, false},
		{f, api.Chain{F: []api.ZPoly{f, poly(0, 2), poly(1)}, S: []api.SturmStep{step(2, 4, poly(0, 1)), {A: whole.Of(1), B: api.Int{Mag: []uint32{1, 0}}, Q: poly(0, 2)}}}, false},
		// Nothing but a degree that doesn't fall, and nothing but a coefficient 0 at the top, is wrong.
		{f, api.Chain{F: []api.ZPoly{f, poly(0, 2), poly(2, 1), poly(1)}, S: []api.SturmStep{step(2, 2, poly(1, 1)), step(1, 4, poly(2)), step(1, 1, poly(2, 1))}}, false},
		{poly(-1, 0, 0, 0, 1), api.Chain{F: []api.ZPoly{poly(-1, 0, 0, 0, 1), poly(0, 0, 0, 4), poly(1)}, S: []api.SturmStep{step(4, 4, poly(0, 1)), step(1, 1, poly(0, 0, 0, 4))}}, true},
		{poly(-1, 0, 0, 0, 1), api.Chain{F: []api.ZPoly{poly(-1, 0, 0, 0, 1), poly(0, 0, 0, 4), {whole.Of(1), whole.Of(0)}}, S: []api.SturmStep{step(4, 4, poly(0, 1)), step(1, 1, poly(0, 0, 0, 4))}}, false},
		{f, api.Chain{F: []api.ZPoly{f, poly(0, 2), poly(0, 2)}, S: []api.SturmStep{step(1, 1, poly(1)), step(1, 1, poly(1))}}, false},
	} {
		if Holds(x.f, x.c) != x.want {
			t.Error(i)
		}
	}
}
