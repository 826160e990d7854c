package realalg

import (
	"math"
	"math/rand"
	"testing"

	"algebrist/api"
	"algebrist/frac"
	"algebrist/isolate"
	"algebrist/sturm"
	"algebrist/whole"
	"algebrist/zpoly"
)

func poly(l ...int) api.ZPoly {
	out := make(api.ZPoly, len(l))
	for i, n := range l {
		out[i] = whole.Of(n)
	}
	return zpoly.Add(out, nil)
}

func rat(n, d int) api.Rat {
	a, _ := frac.Of(whole.Of(n), whole.Of(d))
	return a
}

// draw is a random number of a small degree.
func draw(r *rand.Rand, degree int) api.Alg {
	for {
		f := make(api.ZPoly, 2+r.Intn(degree))
		for i := range f {
			f[i] = whole.Of(r.Intn(13) - 6)
		}
		f = zpoly.Add(f, nil)
		if a, e := Root(f, r.Intn(3)); e == api.OK {
			return a
		}
	}
}

func must(t *testing.T, a api.Alg, e api.Errno) api.Alg {
	t.Helper()
	if e != api.OK || !Right(a) {
		t.Fatal(a, e)
	}
	return a
}

func rootOf(t *testing.T, k int, l ...int) api.Alg {
	t.Helper()
	a, e := Root(poly(l...), k)
	return must(t, a, e)
}

// P22.1
func TestRoot(t *testing.T) {
	r := rand.New(rand.NewSource(1))
	for range 150 {
		f := poly(1)
		for range 1 + r.Intn(3) {
			g := make(api.ZPoly, 2+r.Intn(3))
			for i := range g {
				g[i] = whole.Of(r.Intn(9) - 4)
			}
			f = zpoly.Mul(f, zpoly.Add(g, nil))
		}
		if len(f) == 0 {
			continue
		}
		n, _ := sturm.All(f)
		var last api.Alg
		for k := range n {
			a, e := Root(f, k)
			must(t, a, e)
			if Sign(f, a) != 0 || k > 0 && Cmp(last, a) != -1 {
				t.Fatal(f, k)
			}
			last = a
		}
		for _, k := range []int{-1, n, math.MaxInt} {
			if a, e := Root(f, k); e != api.ErrNone || len(a.M) != 0 || a.K != 0 {
				t.Fatal(f, k, e)
			}
		}
	}
	long, _ := whole.Pow(whole.Of(2), 900)
	for i, x := range []struct {
		f api.ZPoly
		e api.Errno
	}{{nil, api.ErrZero}, {zpoly.Mono(whole.Of(1), 41), api.ErrRange}, {api.ZPoly{long, whole.Of(1)}, api.ErrRange}, {api.ZPoly{whole.Sub(long, whole.Of(1)), whole.Of(1)}, api.OK}, {zpoly.Add(zpoly.Mono(whole.Of(1), 40), api.ZPoly{whole.Sub(whole.Of(1), long)}), api.OK}, {poly(5), api.ErrNone}, {poly(1, 0, 1), api.ErrNone}} {
		if a, e := Root(x.f, 0); e != x.e || e != api.OK && len(a.M) != 0 {
			t.Error(i, e)
		}
	}
}

func TestKept(t *testing.T) {
	for i, x := range []struct {
		a    api.Alg
		want bool
	}{{api.Alg{M: poly(-2, 0, 1), K: 1}, true}, {api.Alg{M: poly(-2, 0, 1), K: 2}, false}, {api.Alg{M: poly(-2, 0, 1), K: -1}, false}, {api.Alg{M: poly(-4, 0, 1)}, false}, {api.Alg{M: poly(-4, 0, 2)}, false}, {api.Alg{M: poly(2, 0, -1)}, false}, {api.Alg{M: poly(0, 1)}, true}, {api.Alg{}, false}, {api.Alg{M: poly(1)}, false}, {api.Alg{M: poly(1, 0, 1)}, false}, {api.Alg{M: poly(0, 0, 1)}, false}, {api.Alg{M: api.ZPoly{whole.Of(1), whole.Of(0)}}, false}, {api.Alg{M: zpoly.Add(zpoly.Mono(whole.Of(1), 41), poly(-2))}, false}} {
		if Right(x.a) != x.want {
			t.Error(i)
		}
	}
	if deep := zpoly.Add(zpoly.Mono(whole.Of(1), 40), poly(-2)); !Right(api.Alg{M: deep, K: 1}) || Right(api.Alg{M: deep, K: 2}) {
		t.Error("degree 40")
	}
	a := Of(rat(-3, 4))
	if !Right(a) || !zpoly.Same(a.M, poly(3, 4)) || a.K != 0 || !Right(Of(rat(0, 1))) {
		t.Error("of")
	}
	if x, ok := Rational(a); !ok || !frac.Same(x, rat(-3, 4)) {
		t.Error("rational")
	}
	if x, ok := Rational(rootOf(t, 0, -2, 0, 1)); ok || len(x.Den.Mag) != 0 {
		t.Error("not rational")
	}
	if !Same(a, Of(rat(-3, 4))) || Same(a, api.Alg{M: a.M, K: 1}) || Same(a, Of(rat(3, 4))) {
		t.Error("same")
	}
}

// P22.2
func TestPlaces(t *testing.T) {
	r := rand.New(rand.NewSource(2))
	for range 150 {
		a, b := draw(r, 4), draw(r, 4)
		w := rat(1, 1+r.Intn(1000))
		x, e := Near(a, w)
		if e != api.OK || frac.Cmp(frac.Sub(x.Hi, x.Lo), w) > 0 {
			t.Fatal(a, x)
		}
		i, e := isolate.Refine(a.M, x, rat(1, 1000000))
		if e != api.OK {
			t.Fatal("no interval with a root", a, x)
		}
		if !frac.Same(x.Lo, x.Hi) {
			above, _ := sturm.Above(a.M, x.Lo)
			all, _ := sturm.All(a.M)
			if all-above != a.K {
				t.Fatal("another root")
			}
		}
		y, _ := Near(b, rat(1, 1000000))
		if c := Cmp(a, b); c != -Cmp(b, a) || c < 0 && frac.Cmp(i.Lo, y.Hi) > 0 || c > 0 && frac.Cmp(y.Lo, i.Hi) > 0 || (c == 0) != Same(a, b) {
			t.Fatal("cmp", a, b)
		}
		f := poly(r.Intn(9)-4, r.Intn(9)-4, r.Intn(9)-4)
		s := Sign(f, a)
		mid := frac.Whole(api.Int{})
		for j := len(f) - 1; j >= 0; j-- {
			mid = frac.Add(frac.Mul(mid, i.Lo), frac.Whole(f[j]))
		}
		if s != frac.Sign(mid) && frac.Cmp(frac.Abs(mid), rat(1, 100)) > 0 {
			t.Fatal("sign", f, a, s)
		}
		if Sign(zpoly.Mul(f, a.M), a) != 0 {
			t.Fatal("sign of a multiple")
		}
	}
	two := rootOf(t, 1, -2, 0, 1)
	for _, w := range []api.Rat{rat(0, 1), rat(-1, 2)} {
		if x, e := Near(two, w); e != api.ErrArg || len(x.Lo.Den.Mag) != 0 {
			t.Error(e)
		}
	}
	if s, e := Decimal(two, 3); s != "1.414" || e != api.OK {
		t.Error(s, e)
	}
	if s, e := Decimal(Neg(two), 3); s != "-1.415" || e != api.OK {
		t.Error(s, e)
	}
	for _, p := range []int{-1, 101} {
		if s, e := Decimal(two, p); s != "" || e != api.ErrArg {
			t.Error(s, e)
		}
	}
	if Sign(nil, two) != 0 || Sign(poly(-3), two) != -1 || Cmp(two, Of(rat(141421356, 100000000))) != 1 || Cmp(Of(rat(1, 2)), Of(rat(1, 3))) != 1 {
		t.Error("sign, cmp")
	}
}

// P22.3, P22.4
func TestField(t *testing.T) {
	r := rand.New(rand.NewSource(3))
	for range 60 {
		a, b, c := draw(r, 2), draw(r, 2), Of(rat(r.Intn(9)-4, 1+r.Intn(3)))
		ab, e := Add(a, b)
		must(t, ab, e)
		ba, _ := Add(b, a)
		if !Same(ab, ba) {
			t.Fatal("turned round", a, b)
		}
		if Cmp(ab, a) != Cmp(b, Of(rat(0, 1))) {
			t.Fatal("order", a, b)
		}
		if zpoly.Deg(ab.M)*zpoly.Deg(b.M) <= 12 {
			if back, e := Add(ab, Neg(b)); e != api.OK || !Same(back, a) {
				t.Fatal("sum comes back", a, b, back)
			}
		}
		p, e := Mul(a, b)
		must(t, p, e)
		if i, e := Inv(b); e == api.OK {
			must(t, i, e)
			if back, e := Mul(p, i); e == api.OK && !Same(back, a) {
				t.Fatal("product comes back", a, b)
			}
			if again, _ := Inv(i); !Same(again, b) {
				t.Fatal("inv", b)
			}
		} else if Cmp(b, Of(rat(0, 1))) != 0 {
			t.Fatal(e)
		}
		// (a + b) c = a c + b c
		left, e1 := Mul(ab, c)
		ac, _ := Mul(a, c)
		bc, _ := Mul(b, c)
		right, e2 := Add(ac, bc)
		if e1 == api.OK && e2 == api.OK && !Same(left, right) {
			t.Fatal("taken apart", a, b, c)
		}
		if n := must(t, Neg(a), api.OK); !Same(Neg(n), a) || Cmp(n, a) != -Cmp(a, Of(rat(0, 1))) {
			t.Fatal("neg", a)
		}
	}
	two, three := rootOf(t, 1, -2, 0, 1), rootOf(t, 1, -3, 0, 1)
	if p, _ := Mul(two, two); !Same(p, Of(rat(2, 1))) {
		t.Error(p)
	}
	if p, _ := Mul(two, three); !Same(p, rootOf(t, 1, -6, 0, 1)) {
		t.Error(p)
	}
	if s, _ := Add(two, three); !Same(s, rootOf(t, 3, 1, 0, -10, 0, 1)) {
		t.Error(s)
	}
	zero := Of(rat(0, 1))
	if p, e := Mul(zero, two); e != api.OK || !Same(p, zero) {
		t.Error(p)
	}
	if p, e := Mul(two, zero); e != api.OK || !Same(p, zero) {
		t.Error(p)
	}
	if a, e := Inv(zero); e != api.ErrZero || len(a.M) != 0 {
		t.Error(e)
	}
	five := rootOf(t, 0, -2, 0, 0, 0, 0, 1)
	big := Of(rat(1<<60, 1))
	for _, x := range [][2]api.Alg{{five, rootOf(t, 0, -3, 0, 0, 1)}, {two, big}, {big, two}} {
		if a, e := Add(x[0], x[1]); e != api.ErrRange || len(a.M) != 0 {
			t.Error(e)
		}
		if a, e := Mul(x[0], x[1]); e != api.ErrRange || len(a.M) != 0 {
			t.Error(e)
		}
	}
	twelfth := rootOf(t, 1, -2, 0, 0, 0, 0, 0, 0, 0, 0, 0, 0, 0, 1)
	if s, e := Add(twelfth, Of(rat(1, 2))); e != api.OK || !Right(s) {
		t.Error(e)
	}
	if p, e := Mul(twelfth, Of(rat(1, 2))); e != api.OK || !Right(p) {
		t.Error(e)
	}
	if p, e := Mul(rootOf(t, 0, -2, 0, 0, 1), rootOf(t, 1, -3, 0, 0, 0, 1)); e != api.OK || zpoly.Deg(p.M) != 12 {
		t.Error(p, e)
	}
	if _, e := Mul(rootOf(t, 0, -2, 0, 0, 0, 0, 0, 0, 0, 0, 0, 0, 0, 0, 1), Of(rat(1, 1))); e != api.ErrRange {
		t.Error(e)
	}
	edge := Of(rat(1<<60-1, 1<<60-3))
	if a, e := Add(edge, rootOf(t, 0, 1<<60-1, 0, 0, 0, 0, 0, 0, 0, 0, 0, 0, 1<<60-5)); e != api.OK || !Right(a) {
		t.Error(e)
	}
}
