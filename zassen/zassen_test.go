package zassen

import (
	"math/rand"
	"slices"
	"testing"

	"algebrist/api"
	"algebrist/bound"
	"algebrist/degrees"
	"algebrist/frac"
	"algebrist/hensel"
	"algebrist/ppoly"
	"algebrist/whole"
	"algebrist/zpoly"
)

func poly(l ...int) api.ZPoly {
	out := make(api.ZPoly, len(l))
	for i, n := range l {
		out[i] = whole.Of(n)
	}
	return zpoly.Add(out, nil)
}

func draw(r *rand.Rand, n, size int) api.ZPoly {
	out := make(api.ZPoly, 1+r.Intn(n))
	for i := range out {
		out[i] = whole.Of(r.Intn(2*size+1) - size)
	}
	return zpoly.Add(out, nil)
}

// swinnerton has the roots of sums of square roots of primes: over each prime it splits into factors of degree 2 at most.
func swinnerton(primes ...int) api.ZPoly {
	f := poly(0, 1)
	for _, p := range primes {
		// f(x - s) f(x + s), s the root of p: with f(x + s) = a + b s it is a^2 - p b^2.
		var a, b api.ZPoly
		power := []api.ZPoly{poly(1), nil} // (x + s)^i
		for _, c := range f {
			a = zpoly.Add(a, zpoly.Scale(power[0], c))
			b = zpoly.Add(b, zpoly.Scale(power[1], c))
			x := poly(0, 1)
			power = []api.ZPoly{zpoly.Add(zpoly.Mul(power[0], x), zpoly.Scale(power[1], whole.Of(p))), zpoly.Add(zpoly.Mul(power[1], x), power[0])}
		}
		f = zpoly.Sub(zpoly.Mul(a, a), zpoly.Scale(zpoly.Mul(b, b), whole.Of(p)))
	}
	return f
}

func must(t *testing.T, f api.ZPoly) (api.ZFactors, []api.ZIrr) {
	t.Helper()
	x, w, e := Factor(f)
	if e != api.OK || !Holds(f, x, w) {
		t.Fatal("factor", f, x, e)
	}
	return x, w
}

// P18.1, P18.3, P18.5
func TestFactor(t *testing.T) {
	r := rand.New(rand.NewSource(1))
	for range 250 {
		f := draw(r, 6, 9)
		g := draw(r, 5, 99)
		for range r.Intn(3) {
			h := draw(r, 4, 9)
			f = zpoly.Mul(f, zpoly.Mul(h, h))
		}
		if len(f) == 0 || len(g) == 0 {
			continue
		}
		x, _ := must(t, f)
		y, _ := must(t, g)
		both, _ := must(t, zpoly.Mul(f, g))
		count := func(l []api.ZPower, h api.ZPoly) int {
			for _, p := range l {
				if zpoly.Same(p.F, h) {
					return p.N
				}
			}
			return 0
		}
		for _, p := range both.L {
			if p.N != count(x.L, p.F)+count(y.L, p.F) {
				t.Fatal("a product's factors are its parts'", f, g)
			}
		}
		if !whole.Same(both.C, whole.Mul(x.C, y.C)) {
			t.Fatal("contents")
		}
	}
}

func TestKnown(t *testing.T) {
	for i, x := range []struct {
		f    api.ZPoly
		c    int
		want []api.ZPower
	}{
		{poly(4, 0, 0, 0, 1), 1, []api.ZPower{{F: poly(2, -2, 1), N: 1}, {F: poly(2, 2, 1), N: 1}}},
		{poly(-6, 2), 2, []api.ZPower{{F: poly(-3, 1), N: 1}}},
		{poly(1, 0, 0, 0, 1), 1, []api.ZPower{{F: poly(1, 0, 0, 0, 1), N: 1}}},
		{poly(7), 7, nil}, {poly(-7), -7, nil},
		{poly(0, 0, 0, -2), -2, []api.ZPower{{F: poly(0, 1), N: 3}}},
		{poly(6, 5, 1), 1, []api.ZPower{{F: poly(2, 1), N: 1}, {F: poly(3, 1), N: 1}}},
		{poly(1, -2), -1, []api.ZPower{{F: poly(-1, 2), N: 1}}},
	} {
		y, _ := must(t, x.f)
		if !whole.Same(y.C, whole.Of(x.c)) || !slices.EqualFunc(y.L, x.want, func(a, b api.ZPower) bool { return a.N == b.N && zpoly.Same(a.F, b.F) }) {
			t.Error(i, y)
		}
	}
	// x^n - 1 has as many factors as n has divisors.
	for n, want := range map[int]int{6: 4, 12: 6, 30: 8, 36: 9, 40: 8} {
		if x, _ := must(t, zpoly.Sub(zpoly.Mono(whole.Of(1), n), poly(1))); len(x.L) != want {
			t.Error(n, len(x.L))
		}
	}
}

func TestManyFactorsOverEachPrime(t *testing.T) {
	for _, primes := range [][]int{{2}, {2, 3}, {2, 3, 5}, {2, 3, 5, 7}, {2, 3, 5, 7, 11}} {
		f := swinnerton(primes...)
		if x, _ := must(t, f); len(x.L) != 1 || x.L[0].N != 1 {
			t.Error(primes)
		}
	}
	f := zpoly.Mul(swinnerton(2, 3, 5, 7), zpoly.Mul(swinnerton(3, 5, 7, 11), swinnerton(2, 3, 11)))
	if x, _ := must(t, f); len(x.L) != 3 {
		t.Error(len(x.L))
	}
}

func TestGreat(t *testing.T) {
	r := rand.New(rand.NewSource(2))
	long := func() api.Int {
		mag := make([]uint32, 15)
		for i := range mag {
			mag[i] = r.Uint32()
		}
		return api.Int{Mag: mag, Neg: r.Intn(2) == 0}
	}
	build := func(n int) api.ZPoly {
		f := make(api.ZPoly, n+1)
		for i := range f {
			f[i] = long()
		}
		return zpoly.Primitive(f)
	}
	if x, _ := must(t, zpoly.Mul(build(20), build(20))); len(x.L) != 2 {
		t.Error(len(x.L))
	}
	top, _ := whole.Pow(whole.Of(2), 1000)
	edge := zpoly.Add(zpoly.Mono(whole.Sub(top, whole.Of(1)), 40), poly(2))
	must(t, edge)
	for i, f := range []api.ZPoly{zpoly.Add(zpoly.Mono(top, 40), poly(2)), zpoly.Mono(whole.Of(1), 41), zpoly.Const(whole.Neg(top))} {
		x, w, e := Factor(f)
		if e != api.ErrRange || len(x.C.Mag)+len(x.L)+len(w) != 0 {
			t.Error(i, e)
		}
		if l, e := Rational(f); e != api.ErrRange || len(l) != 0 {
			t.Error(i, e)
		}
	}
	if _, _, e := Factor(nil); e != api.ErrZero {
		t.Error(e)
	}
	if _, e := Rational(nil); e != api.ErrZero {
		t.Error(e)
	}
}

// paper makes a paper for anything, as if it were irreducible.
func paper(f api.ZPoly, p uint32, k int) api.ZIrr {
	w := api.ZIrr{F: f}
	l := monicFactors(f, p)
	for _, g := range l {
		irr, _ := degrees.Prove(g)
		w.Mod = append(w.Mod, irr)
	}
	w.Lift, _ = hensel.Up(f, l, k)
	return w
}

// P18.2, P18.5
func TestIrreducible(t *testing.T) {
	r := rand.New(rand.NewSource(3))
	for range 150 {
		f, g := zpoly.Primitive(draw(r, 5, 20)), zpoly.Primitive(draw(r, 5, 20))
		h := zpoly.Mul(f, g)
		if zpoly.Deg(f) < 1 || zpoly.Deg(g) < 1 {
			continue
		}
		for _, p := range []uint32{3, 101, 65537} {
			if _, ok := howMany(h, p); !ok {
				continue
			}
			k, _ := hensel.Need(h, p)
			if Irreducible(paper(h, p, k)) {
				t.Fatal("a product", f, g)
			}
		}
	}
	f := poly(1, 0, 0, 0, 1)
	k, _ := hensel.Need(f, 7)
	w := paper(f, 7, k)
	if !Irreducible(w) {
		t.Error("x^4 + 1")
	}
	if Irreducible(paper(f, 7, k-1)) {
		t.Error("not far enough")
	}
	if !Irreducible(paper(f, 7, 200)) {
		t.Error("farther")
	}
	bad := w
	bad.Mod = w.Mod[:1]
	if Irreducible(bad) {
		t.Error("a paper less")
	}
	bad.Mod = []api.PIrr{w.Mod[1], w.Mod[0]}
	if Irreducible(bad) {
		t.Error("another order")
	}
	if Irreducible(api.ZIrr{F: poly(2, 4)}) || Irreducible(api.ZIrr{F: poly(2, -1)}) || Irreducible(api.ZIrr{F: poly(1)}) || Irreducible(api.ZIrr{}) || !Irreducible(api.ZIrr{F: poly(3, 2)}) {
		t.Error("degree 1")
	}
	if Irreducible(api.ZIrr{F: poly(3, 2), Mod: w.Mod}) || Irreducible(api.ZIrr{F: poly(3, 2), Lift: api.Lift{P: 7}}) || Irreducible(api.ZIrr{F: api.ZPoly{whole.Of(3), whole.Of(2), whole.Of(0)}}) {
		t.Error("degree 1")
	}
	// One factor over a prime is enough; the whole of it is no choice.
	g := poly(2, 0, 1)
	one := paper(g, 5, 10)
	if len(one.Mod) != 1 || !Irreducible(one) {
		t.Error("one factor")
	}
	// The power must be greater than the bound: of x^2 + x + 1 that is 2^4.
	h := poly(1, 1, 1)
	if Irreducible(paper(h, 2, 4)) || !Irreducible(paper(h, 2, 5)) {
		t.Error("as great as the bound")
	}
	// All but that two images are alike.
	twice := poly(26, 2, 1)
	image, _ := degrees.Prove(ppoly.From(5, poly(1, 1)))
	if Irreducible(api.ZIrr{F: twice, Mod: []api.PIrr{image, image}, Lift: api.Lift{P: 5, K: 4, L: []api.ZPoly{poly(-34, 1), poly(36, 1)}}}) {
		t.Error("two images alike")
	}
	deep := zpoly.Add(zpoly.Mono(whole.Of(1), 41), poly(2))
	if Irreducible(paper(deep, 101, 20)) {
		t.Error("above degree 40")
	}
	_ = bound.Factor(g)
}

func TestHolds(t *testing.T) {
	f := poly(4, 0, 0, 0, 1)
	x, w, _ := Factor(f)
	whole1 := paper(f, 101, 20)
	for i, y := range []struct {
		f api.ZPoly
		x api.ZFactors
		w []api.ZIrr
	}{
		{f, x, w[:1]}, {f, api.ZFactors{C: whole.Of(2), L: x.L}, w}, {f, api.ZFactors{C: x.C, L: []api.ZPower{x.L[1], x.L[0]}}, []api.ZIrr{w[1], w[0]}},
		{f, api.ZFactors{C: x.C, L: []api.ZPower{{F: f, N: 1}}}, []api.ZIrr{whole1}},
		{f, api.ZFactors{C: x.C, L: []api.ZPower{{F: x.L[0].F, N: 1 << 62}, x.L[1]}}, w},
		{f, api.ZFactors{C: x.C, L: []api.ZPower{{F: x.L[0].F, N: 0}, x.L[1]}}, w},
		{nil, api.ZFactors{}, nil}, {zpoly.Neg(f), x, w}, {append(f[:len(f):len(f)], whole.Of(0)), x, w},
		{f, api.ZFactors{C: x.C, L: x.L[:1]}, w[:1]}, {f, x, []api.ZIrr{w[1], w[0]}},
		{poly(5), api.ZFactors{C: api.Int{Mag: []uint32{5, 0}}}, nil},
		{poly(9, 6, 1), api.ZFactors{C: whole.Of(1), L: []api.ZPower{{F: poly(3, 1), N: 1}, {F: poly(3, 1), N: 1}}}, []api.ZIrr{{F: poly(3, 1)}, {F: poly(3, 1)}}},
	} {
		if Holds(y.f, y.x, y.w) {
			t.Error(i)
		}
	}
	if !Holds(poly(-5), api.ZFactors{C: whole.Of(-5)}, nil) || !Holds(f, x, w) {
		t.Error("what holds")
	}
}

// P18.4
func TestRational(t *testing.T) {
	l, e := Rational(zpoly.Mul(zpoly.Mul(poly(-1, 2), poly(-1, 2)), zpoly.Mul(poly(3, 1), poly(0, -2, 0, 1))))
	want := [][2]int{{-3, 1}, {0, 1}, {1, 2}}
	if e != api.OK || len(l) != 3 {
		t.Fatal(l, e)
	}
	for i, x := range want {
		a, _ := frac.Of(whole.Of(x[0]), whole.Of(x[1]))
		if !frac.Same(l[i], a) {
			t.Error(i, l[i])
		}
	}
	if l, e := Rational(poly(4)); e != api.OK || len(l) != 0 {
		t.Error(l)
	}
	_ = ppoly.Deg
}

// Both ways of going over choices tell the same ones.
func TestMeeting(t *testing.T) {
	r := rand.New(rand.NewSource(6))
	told := 0
	for range 60 {
		f := poly(1)
		for zpoly.Deg(f) < 9 {
			f = zpoly.Mul(f, poly(r.Intn(19)-9, r.Intn(9)-4, 1))
		}
		p := uint32(101)
		for {
			if _, ok := howMany(f, p); ok || p > 1000 {
				break
			}
			p = nextPrime(p)
		}
		if p > 1000 {
			continue
		}
		l := monicFactors(f, p)
		k, _ := hensel.Need(f, p)
		lift, _ := hensel.Up(f, l, k)
		x := newPool(f, lift)
		for from := range 2 {
			var a, b []uint64
			for c := range x.all(from) {
				a = append(a, c)
			}
			for c := range x.meeting(from) {
				b = append(b, c)
			}
			slices.Sort(a)
			slices.Sort(b)
			if x.slack < 1<<62 && !slices.Equal(a, b) {
				t.Fatal(f, p, from, a, b)
			}
			told += len(b)
		}
		for range x.meeting(0) {
			break
		}
	}
	if told == 0 {
		t.Error("none")
	}
}

// The cyclotomic polynomial of 41 splits into forty factors over 83, but no choice of them divides.
func TestFortyFactors(t *testing.T) {
	f := make(api.ZPoly, 41)
	for i := range f {
		f[i] = whole.Of(1)
	}
	k, _ := hensel.Need(f, 83)
	w := paper(f, 83, k)
	if len(w.Mod) != 40 || !Irreducible(w) {
		t.Error(len(w.Mod))
	}
	// x^40 - 1 has forty factors over 41, too, but is a product.
	g := zpoly.Sub(zpoly.Mono(whole.Of(1), 40), poly(1))
	k, _ = hensel.Need(g, 41)
	if w := paper(g, 41, k); len(w.Mod) != 40 || Irreducible(w) {
		t.Error("a product")
	}
}
