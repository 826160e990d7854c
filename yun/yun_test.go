package yun

import (
	"math/rand"
	"testing"

	"algebrist/api"
	"algebrist/ppoly"
	"algebrist/whole"
	"algebrist/zgcd"
	"algebrist/zpoly"
)

func poly(l ...int) api.ZPoly {
	out := make(api.ZPoly, len(l))
	for i, n := range l {
		out[i] = whole.Of(n)
	}
	return zpoly.Add(out, nil)
}

func draw(r *rand.Rand, n, size int) api.ZPoly {
	out := make(api.ZPoly, 1+r.Intn(n))
	for i := range out {
		out[i] = whole.Of(r.Intn(2*size+1) - size)
	}
	return zpoly.Add(out, nil)
}

func pow(f api.ZPoly, n int) api.ZPoly {
	g, _ := zpoly.Pow(f, n)
	return g
}

func check(t *testing.T, f api.ZPoly, x api.ZFactors) {
	t.Helper()
	product := zpoly.Const(x.C)
	core := poly(1)
	for i, p := range x.L {
		if i > 0 && p.N <= x.L[i-1].N || p.N < 1 || zpoly.Deg(p.F) < 1 || !zpoly.Same(p.F, zpoly.Primitive(p.F)) || !Free(p.F) {
			t.Fatal(f, x)
		}
		for _, q := range x.L[:i] {
			if zpoly.Deg(zgcd.Gcd(p.F, q.F).G) > 0 {
				t.Fatal("not coprime", f, x)
			}
		}
		product = zpoly.Mul(product, pow(p.F, p.N))
		core = zpoly.Mul(core, p.F)
	}
	if !zpoly.Same(product, f) || !zpoly.Same(core, Core(f)) {
		t.Fatal(f, x)
	}
	if Free(f) != (len(x.L) == 0 || x.L[len(x.L)-1].N == 1) {
		t.Fatal("free", f)
	}
}

// P14.1, P14.3, P14.4
func TestParts(t *testing.T) {
	r := rand.New(rand.NewSource(1))
	for range 300 {
		f := draw(r, 3, 9)
		for range r.Intn(4) {
			f = zpoly.Mul(f, pow(draw(r, 3, 9), 1+r.Intn(4)))
		}
		if len(f) == 0 {
			continue
		}
		x, e := Parts(f)
		if e != api.OK {
			t.Fatal(e)
		}
		check(t, f, x)
		k := 1 + r.Intn(3)
		y, _ := Parts(pow(f, k))
		if len(x.L) != len(y.L) {
			t.Fatal("power", f)
		}
		for i := range x.L {
			if y.L[i].N != k*x.L[i].N || !zpoly.Same(x.L[i].F, y.L[i].F) {
				t.Fatal("power", f)
			}
		}
	}
	x, _ := Parts(zpoly.Scale(zpoly.Mul(pow(poly(-1, 1), 2), poly(1, 1)), whole.Of(2)))
	if !whole.Same(x.C, whole.Of(2)) || len(x.L) != 2 || x.L[0].N != 1 || !zpoly.Same(x.L[0].F, poly(1, 1)) || x.L[1].N != 2 || !zpoly.Same(x.L[1].F, poly(-1, 1)) {
		t.Error(x)
	}
	if x, e := Parts(nil); e != api.ErrZero || len(x.C.Mag)+len(x.L) != 0 {
		t.Error(e)
	}
	if x, e := Parts(poly(-6)); e != api.OK || !whole.Same(x.C, whole.Of(-6)) || len(x.L) != 0 {
		t.Error(x)
	}
	if x, _ := Parts(poly(2, -4)); !whole.Same(x.C, whole.Of(-2)) || !zpoly.Same(x.L[0].F, poly(-1, 2)) {
		t.Error(x)
	}
	if Free(nil) || !Free(poly(4)) || !Free(poly(4, 8)) || Free(poly(0, 0, 1)) {
		t.Error("free")
	}
	if len(Core(nil)) != 0 || !zpoly.Same(Core(poly(-5)), poly(1)) || !zpoly.Same(Core(poly(0, 0, -3)), poly(0, 1)) {
		t.Error("core")
	}
}

// P14.2
func TestPParts(t *testing.T) {
	r := rand.New(rand.NewSource(2))
	for _, p := range []uint32{2, 3, 5, 1<<31 - 1} {
		for range 150 {
			f := ppoly.From(p, draw(r, 4, 9))
			for range r.Intn(4) {
				g := ppoly.From(p, draw(r, 3, 9))
				for range 1 + r.Intn(7) {
					f = ppoly.Mul(f, g)
				}
			}
			x, e := PParts(f)
			if len(f.C) == 0 {
				if e != api.ErrZero || x.C != 0 || len(x.L) != 0 {
					t.Fatal(e)
				}
				continue
			}
			product := ppoly.From(p, poly(int(x.C)))
			for i, q := range x.L {
				unit, _ := ppoly.Monic(q.F)
				if i > 0 && q.N <= x.L[i-1].N || q.N < 1 || ppoly.Deg(q.F) < 1 || unit != 1 || ppoly.Deg(ppoly.Gcd(q.F, ppoly.Diff(q.F)).G) != 0 {
					t.Fatal(f, x)
				}
				for _, o := range x.L[:i] {
					if ppoly.Deg(ppoly.Gcd(q.F, o.F).G) != 0 {
						t.Fatal("not coprime")
					}
				}
				for range q.N {
					product = ppoly.Mul(product, q.F)
				}
			}
			if !ppoly.Same(product, f) || e != api.OK {
				t.Fatal(f, x)
			}
		}
	}
	x, _ := PParts(ppoly.From(3, poly(1, 0, 0, 1)))
	if x.C != 1 || len(x.L) != 1 || x.L[0].N != 3 || !ppoly.Same(x.L[0].F, ppoly.From(3, poly(1, 1))) {
		t.Error(x)
	}
}
