package hensel

import (
	"math/rand"
	"testing"

	"algebrist/api"
	"algebrist/bound"
	"algebrist/ppoly"
	"algebrist/split"
	"algebrist/whole"
	"algebrist/zpoly"
)

func poly(l ...int) api.ZPoly {
	out := make(api.ZPoly, len(l))
	for i, n := range l {
		out[i] = whole.Of(n)
	}
	return zpoly.Add(out, nil)
}

func draw(r *rand.Rand, n, size int) api.ZPoly {
	out := make(api.ZPoly, 2+r.Intn(n))
	for i := range out {
		out[i] = whole.Of(r.Intn(2*size+1) - size)
	}
	return zpoly.Add(out, nil)
}

// factors are the monic factors of an image that has no square, and does not lose its degree.
func factors(f api.ZPoly, p uint32) ([]api.PPoly, bool) {
	image := ppoly.From(p, f)
	if zpoly.Deg(f) < 1 || ppoly.Deg(image) != zpoly.Deg(f) {
		return nil, false
	}
	x, _, _ := split.Factor(image, 0)
	var l []api.PPoly
	for _, g := range x.L {
		if g.N > 1 {
			return nil, false
		}
		l = append(l, g.F)
	}
	return l, true
}

// P17.1, P17.2, P17.4
func TestUp(t *testing.T) {
	r := rand.New(rand.NewSource(1))
	for _, p := range []uint32{2, 3, 7, 1<<31 - 1} {
		for range 60 {
			f := draw(r, 9, 30)
			l, ok := factors(f, p)
			if !ok {
				continue
			}
			r.Shuffle(len(l), func(i, j int) { l[i], l[j] = l[j], l[i] })
			k := 1 + r.Intn(40)
			x, e := Up(f, l, k)
			if e != api.OK || !Holds(f, x) || x.P != p || x.K != k || len(x.L) != len(l) {
				t.Fatal(f, p, k, e)
			}
			for i, g := range x.L {
				if !ppoly.Same(ppoly.From(p, g), l[i]) {
					t.Fatal("images", f, p, k)
				}
			}
			less := 1 + r.Intn(k)
			y, _ := Up(f, l, less)
			m, _ := whole.Pow(whole.Of(int(p)), less)
			for i, g := range y.L {
				if !zpoly.Same(g, reduce(x.L[i], m)) {
					t.Fatal("lesser power")
				}
			}
			bad := api.Lift{P: p, K: k, L: append([]api.ZPoly(nil), x.L...)}
			bad.L[0] = reduce(zpoly.Add(bad.L[0], poly(1)), mustPow(p, k))
			if Holds(f, bad) && k > 0 && zpoly.Deg(bad.L[0]) > 0 {
				t.Fatal("another one")
			}
		}
	}
	x, e := Up(poly(-2, 0, 1), []api.PPoly{ppoly.From(7, poly(-3, 1)), ppoly.From(7, poly(3, 1))}, 2)
	if e != api.OK || !zpoly.Same(x.L[0], poly(-10, 1)) || !zpoly.Same(x.L[1], poly(10, 1)) {
		t.Error(x, e)
	}
	if x, e := Up(poly(-2, 0, 1), []api.PPoly{ppoly.From(7, poly(-3, 1)), ppoly.From(7, poly(3, 1))}, 200); e != api.OK || !Holds(poly(-2, 0, 1), x) {
		t.Error(e)
	}
}

func mustPow(p uint32, k int) api.Int {
	m, _ := whole.Pow(whole.Of(int(p)), k)
	return m
}

func TestErrors(t *testing.T) {
	f := poly(-2, 0, 1)
	a, b := ppoly.From(7, poly(-3, 1)), ppoly.From(7, poly(3, 1))
	for i, x := range []struct {
		f api.ZPoly
		l []api.PPoly
		k int
		e api.Errno
	}{
		{nil, nil, 0, api.ErrRange}, {f, []api.PPoly{a, b}, 201, api.ErrRange}, {f, []api.PPoly{a, b}, -1, api.ErrRange},
		{nil, []api.PPoly{a}, 1, api.ErrArg}, {poly(3), []api.PPoly{a}, 1, api.ErrArg}, {f, nil, 1, api.ErrArg},
		{f, []api.PPoly{a, ppoly.From(5, poly(3, 1))}, 1, api.ErrArg}, {f, []api.PPoly{a}, 1, api.ErrArg}, {f, []api.PPoly{a, a}, 1, api.ErrArg},
		{f, []api.PPoly{ppoly.Scale(a, 2), ppoly.Scale(b, 4)}, 1, api.ErrArg}, {f, []api.PPoly{ppoly.From(7, poly(1)), a, b}, 1, api.ErrArg},
		{poly(-2, 0, 7), []api.PPoly{a, b}, 1, api.ErrArg}, {poly(9, -6, 1), []api.PPoly{a, a}, 1, api.ErrArg},
		{f, []api.PPoly{ppoly.From(7, f)}, 3, api.OK}, {poly(-6, 0, 3), []api.PPoly{a, b}, 3, api.OK},
	} {
		if y, e := Up(x.f, x.l, x.k); e != x.e || e != api.OK && (y.P != 0 || y.K != 0 || len(y.L) != 0) {
			t.Error(i, e)
		}
	}
}

func TestHolds(t *testing.T) {
	f := poly(-2, 0, 1)
	l := []api.ZPoly{poly(-10, 1), poly(10, 1)}
	for i, x := range []struct {
		f    api.ZPoly
		x    api.Lift
		want bool
	}{
		{f, api.Lift{P: 7, K: 2, L: l}, true}, {f, api.Lift{P: 7, K: 1, L: l}, false}, {f, api.Lift{P: 7, K: 3, L: l}, false},
		{f, api.Lift{P: 49, K: 1, L: l}, false}, {f, api.Lift{P: 7, K: 0, L: l}, false}, {f, api.Lift{P: 7, K: 201, L: l}, false}, {f, api.Lift{P: 7, K: 2}, false},
		{f, api.Lift{P: 7, K: 2, L: []api.ZPoly{poly(39, 1), poly(10, 1)}}, false},
		{f, api.Lift{P: 7, K: 2, L: []api.ZPoly{poly(-2, 0, 1)}}, true},
		{f, api.Lift{P: 7, K: 2, L: []api.ZPoly{poly(1), poly(-2, 0, 1)}}, false},
		{f, api.Lift{P: 7, K: 2, L: []api.ZPoly{poly(10, -1), poly(-10, -1)}}, false},
		{poly(-2, 0, 7), api.Lift{P: 7, K: 1, L: []api.ZPoly{poly(-2, 1)}}, false},
		{poly(3), api.Lift{P: 7, K: 1, L: []api.ZPoly{poly(-2, 1)}}, false},
		{api.ZPoly{whole.Of(1), whole.Of(0)}, api.Lift{P: 7, K: 2, L: l}, false},
		{f, api.Lift{P: 7, K: 2, L: []api.ZPoly{{whole.Of(-10), whole.Of(1), whole.Of(0)}, poly(10, 1)}}, false},
		{poly(-3, 1), api.Lift{P: 7, K: 200, L: []api.ZPoly{poly(-3, 1)}}, true}, {poly(-3, 1), api.Lift{P: 7, K: 201, L: []api.ZPoly{poly(-3, 1)}}, false}, {poly(-3, 1), api.Lift{P: 7, K: -1, L: []api.ZPoly{poly(-3, 1)}}, false}, {poly(-3, 1), api.Lift{P: 7, K: 1 << 40, L: []api.ZPoly{poly(-3, 1)}}, false},
		{f, api.Lift{P: 7, K: 2, L: []api.ZPoly{poly(-10, 1), poly(10, 1), poly(0, 1)}}, false}, {api.ZPoly{whole.Of(-3), {Mag: []uint32{1, 0}}}, api.Lift{P: 7, K: 2, L: []api.ZPoly{poly(-3, 1)}}, false},
		{poly(1, 1), api.Lift{P: 2, K: 1, L: []api.ZPoly{poly(1, 1)}}, true},
		{poly(1, 1), api.Lift{P: 2, K: 1, L: []api.ZPoly{poly(-1, 1)}}, false},
	} {
		if Holds(x.f, x.x) != x.want {
			t.Error(i)
		}
	}
}

// P17.3
func TestNeed(t *testing.T) {
	r := rand.New(rand.NewSource(2))
	for range 100 {
		f := draw(r, 9, 1000)
		if len(f) == 0 {
			continue
		}
		for _, p := range []uint32{2, 101, 1<<31 - 1} {
			k, e := Need(f, p)
			most := whole.Mul(whole.Mul(whole.Of(2), whole.Abs(zpoly.Lead(f))), bound.Factor(f))
			if e != api.OK || k < 1 || whole.Cmp(mustPow(p, k), most) <= 0 || whole.Cmp(mustPow(p, k-1), most) > 0 {
				t.Fatal(f, p, k)
			}
		}
	}
	for _, p := range []uint32{0, 1, 4, 4294967291} {
		if k, e := Need(nil, p); e != api.ErrPrime || k != 0 {
			t.Error(p)
		}
	}
	if k, e := Need(nil, 5); e != api.ErrZero || k != 0 {
		t.Error(e)
	}
	if k, e := Need(poly(1), 2); e != api.OK || k != 3 {
		t.Error(k)
	}
}
