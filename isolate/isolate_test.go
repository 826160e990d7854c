package isolate

import (
	"math"
	"math/rand"
	"slices"
	"strings"
	"testing"

	"algebrist/api"
	"algebrist/frac"
	"algebrist/signs"
	"algebrist/sturm"
	"algebrist/whole"
	"algebrist/yun"
	"algebrist/zpoly"
)

func poly(l ...int) api.ZPoly {
	out := make(api.ZPoly, len(l))
	for i, n := range l {
		out[i] = whole.Of(n)
	}
	return zpoly.Add(out, nil)
}

func rat(n, d int) api.Rat {
	a, _ := frac.Of(whole.Of(n), whole.Of(d))
	return a
}

func iv(a, b api.Rat) api.Interval { return api.Interval{Lo: a, Hi: b} }

// draw makes polynomials many of whose roots are at places where is halved.
func draw(r *rand.Rand) api.ZPoly {
	f := poly(1 + r.Intn(3))
	for range r.Intn(5) {
		switch r.Intn(3) {
		case 0:
			f = zpoly.Mul(f, poly(-(r.Intn(17)-8), 1<<r.Intn(3)))
		case 1:
			f = zpoly.Mul(f, poly(r.Intn(9)-4, r.Intn(9)-4, 1+r.Intn(4)))
		default:
			f = zpoly.Mul(f, poly(r.Intn(9)-4, 0, r.Intn(9)-4, 1))
		}
	}
	return f
}

// P21.1, P21.3, P21.6
func TestAll(t *testing.T) {
	r := rand.New(rand.NewSource(1))
	for range 500 {
		f := draw(r)
		l, e := All(f)
		n, _ := sturm.All(f)
		if e != api.OK || len(l) != n || !Holds(f, l) {
			t.Fatal(f, l, n)
		}
		for k, x := range l {
			if i, e := Index(f, k); e != api.OK || !frac.Same(i.Lo, x.Lo) || !frac.Same(i.Hi, x.Hi) {
				t.Fatal("index", k)
			}
			if isPoint(x) {
				continue
			}
			if c, _ := sturm.Count(f, x.Lo, x.Hi); c != 1 || signs.At(f, x.Lo) == 0 || signs.At(f, x.Hi) == 0 {
				t.Fatal("an interval with another number of roots", f, x)
			}
		}
		if len(l) > 0 && (Holds(f, l[1:]) || Holds(f, append(slices.Clone(l), l[len(l)-1]))) {
			t.Fatal("one left out, one twice")
		}
	}
	for i, x := range []struct {
		f api.ZPoly
		n int
	}{{poly(5), 0}, {poly(0, 1), 1}, {poly(1, 0, 1), 0}, {poly(-2, 0, 1), 2}, {poly(0, 0, 0, 7), 1}} {
		if l, e := All(x.f); e != api.OK || len(l) != x.n || !Holds(x.f, l) {
			t.Error(i, l)
		}
	}
	if l, e := All(nil); e != api.ErrZero || len(l) != 0 || Holds(nil, nil) {
		t.Error(e)
	}
	for _, k := range []int{-1, 2, math.MaxInt, math.MinInt} {
		if i, e := Index(poly(-2, 0, 1), k); e != api.ErrNone || len(i.Lo.Den.Mag) != 0 {
			t.Error(k)
		}
	}
	if _, e := Index(nil, 0); e != api.ErrZero {
		t.Error(e)
	}
}

func TestCloseRoots(t *testing.T) {
	// x^8 - 2 (1000 x - 1)^2 has two roots that are very near to 1/1000.
	f := zpoly.Sub(zpoly.Mono(whole.Of(1), 8), zpoly.Scale(zpoly.Mul(poly(-1, 1000), poly(-1, 1000)), whole.Of(2)))
	l, _ := All(f)
	if len(l) != 4 || !Holds(f, l) {
		t.Error(l)
	}
	// All of 1 to 20.
	g := poly(1)
	for i := 1; i <= 20; i++ {
		g = zpoly.Mul(g, poly(-i, 1))
	}
	if l, _ := All(g); len(l) != 20 || !Holds(g, l) || Descartes(g) != 20 {
		t.Error(len(l))
	}
}

func TestHolds(t *testing.T) {
	f := poly(0, -2, 0, 1) // 0, and the roots of 2
	zero, two := rat(0, 1), rat(2, 1)
	low, high := iv(rat(-2, 1), rat(-1, 1)), iv(rat(1, 1), two)
	good := []api.Interval{low, iv(zero, zero), high}
	if !Holds(f, good) || !Holds(f, []api.Interval{low, iv(rat(-1, 1), rat(1, 1)), high}) {
		t.Error("what holds")
	}
	for i, l := range [][]api.Interval{
		nil, good[:2], {good[1], good[0], good[2]}, {low, high, high}, {low, iv(zero, zero), iv(zero, two)},
		{low, iv(zero, rat(1, 1)), high}, {low, iv(rat(1, 1), rat(-1, 1)), high}, {low, iv(rat(-3, 2), rat(1, 1)), high},
		{low, iv(rat(1, 2), rat(1, 2)), high}, {low, iv(zero, api.Rat{}), high}, {iv(rat(-2, 1), two), iv(two, two), iv(two, two)},
		{low, iv(zero, zero), iv(zero, zero), high}, {low, iv(zero, zero), {Lo: rat(1, 1), Hi: api.Rat{Num: whole.Of(4), Den: whole.Of(2)}}},
	} {
		if Holds(f, l) {
			t.Error(i)
		}
	}
	if Holds(append(f[:len(f):len(f)], whole.Of(0)), good) || !Holds(poly(3), nil) {
		t.Error("of what polynomials")
	}
	if !Holds(zpoly.Mul(f, f), good) {
		t.Error("roots that are there twice")
	}
}

// P21.2
func TestRefine(t *testing.T) {
	r := rand.New(rand.NewSource(2))
	for range 200 {
		f := draw(r)
		l, _ := All(f)
		for _, x := range l {
			w := rat(1, 1+r.Intn(1000))
			y, e := Refine(f, x, w)
			if e != api.OK || frac.Cmp(y.Lo, x.Lo) < 0 || frac.Cmp(y.Hi, x.Hi) > 0 || frac.Cmp(frac.Sub(y.Hi, y.Lo), w) > 0 || !crosses(yun.Core(f), y) {
				t.Fatal(f, x, y, e)
			}
		}
	}
	f := poly(0, -2, 0, 1)
	one := rat(1, 1)
	for i, x := range []struct {
		f api.ZPoly
		i api.Interval
		w api.Rat
	}{{nil, iv(one, rat(2, 1)), one}, {f, iv(one, rat(2, 1)), rat(0, 1)}, {f, iv(one, rat(2, 1)), rat(-1, 1)}, {f, iv(rat(2, 1), rat(3, 1)), one}, {f, iv(rat(-2, 1), rat(2, 1)), one}, {f, iv(rat(0, 1), rat(2, 1)), one}, {f, iv(one, one), one}, {f, iv(rat(2, 1), one), one}, {f, iv(rat(-1, 1), rat(2, 1)), one}} {
		if y, e := Refine(x.f, x.i, x.w); e != api.ErrArg || len(y.Lo.Den.Mag) != 0 {
			t.Error(i, e)
		}
	}
	if y, e := Refine(f, iv(rat(0, 1), rat(0, 1)), one); e != api.OK || !isPoint(y) {
		t.Error(y)
	}
}

// P21.4
func TestDescartes(t *testing.T) {
	for i, x := range []struct {
		f api.ZPoly
		n int
	}{{nil, 0}, {poly(3), 0}, {poly(-1, 0, 1), 1}, {poly(1, -1, 0, 0, 1), 2}, {poly(-1, -1, -1), 0}, {poly(2, -3, 1), 2}} {
		if Descartes(x.f) != x.n {
			t.Error(i)
		}
	}
}

// P21.5
func TestDigits(t *testing.T) {
	f := poly(-2, 0, 1)
	for i, x := range []struct {
		f         api.ZPoly
		k, places int
		want      string
		e         api.Errno
	}{
		{f, 1, 3, "1.414", 0}, {f, 0, 3, "-1.415", 0}, {f, 1, 0, "1", 0}, {f, 0, 0, "-2", 0},
		{f, 1, 50, "1.41421356237309504880168872420969807856967187537694", 0},
		{nil, 0, -1, "", api.ErrZero}, {f, 5, 101, "", api.ErrArg}, {f, 5, -1, "", api.ErrArg}, {f, 2, 1, "", api.ErrNone}, {f, -1, 1, "", api.ErrNone},
		{poly(-1, 8), 0, 2, "0.12", 0}, {poly(1, 8), 0, 2, "-0.13", 0}, {poly(1, 8), 0, 3, "-0.125", 0}, {poly(1, 1000), 0, 2, "-0.01", 0}, {poly(0, 1), 0, 2, "0.00", 0},
		{poly(-1, 1000), 0, 2, "0.00", 0}, {poly(0, 0, -3, 1), 1, 1, "3.0", 0}, {poly(-1, 3), 0, 100, "0." + strings.Repeat("3", 100), 0},
		{zpoly.Mul(poly(-125, 1000), f), 1, 3, "0.125", 0}, {zpoly.Mul(poly(125, 1000), f), 1, 3, "-0.125", 0}, {zpoly.Mul(poly(1, 3), f), 1, 3, "-0.334", 0},
	} {
		if s, e := Digits(x.f, x.k, x.places); s != x.want || e != x.e {
			t.Error(i, s, e)
		}
	}
}
