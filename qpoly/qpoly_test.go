package qpoly

import (
	"math/rand"
	"testing"

	"algebrist/api"
	"algebrist/frac"
	"algebrist/whole"
	"algebrist/zpoly"
)

func rat(n, d int) api.Rat {
	a, _ := frac.Of(whole.Of(n), whole.Of(d))
	return a
}

func poly(l ...int) api.QPoly {
	out := make(api.QPoly, len(l))
	for i, n := range l {
		out[i] = rat(n, 1)
	}
	return trim(out)
}

func drawRat(r *rand.Rand) api.Rat { return rat(r.Intn(41)-20, 1+r.Intn(9)) }

func draw(r *rand.Rand, n int) api.QPoly {
	out := make(api.QPoly, r.Intn(n+1))
	for i := range out {
		out[i] = drawRat(r)
	}
	return trim(out)
}

func same(t *testing.T, what string, got, want api.QPoly) {
	t.Helper()
	if !Right(got) || !Same(got, want) {
		t.Fatalf("%s: got %v, want %v", what, got, want)
	}
	if cap(got) != len(got) {
		t.Fatalf("%s: spare room", what)
	}
}

func slow(f, g api.QPoly) api.QPoly {
	out := make(api.QPoly, len(f)+len(g)+1)
	for i := range out {
		out[i] = rat(0, 1)
	}
	for i := range f {
		for j := range g {
			out[i+j] = frac.Add(out[i+j], frac.Mul(f[i], g[j]))
		}
	}
	return trim(out)
}

// P10.1
func TestKept(t *testing.T) {
	if !Right(nil) || Right(api.QPoly{rat(0, 1)}) || Right(api.QPoly{{}, rat(1, 1)}) || Right(api.QPoly{{Num: whole.Of(2), Den: whole.Of(4)}}) {
		t.Error("right")
	}
	if !Same(nil, api.QPoly{}) || Same(poly(1), poly(1, 1)) || Same(poly(1), poly(-1)) {
		t.Error("same")
	}
	if Deg(nil) != -1 || !frac.Same(Lead(nil), rat(0, 1)) || !frac.Same(Lead(poly(1, 3)), rat(3, 1)) {
		t.Error("deg, lead")
	}
	g, c := Clear(api.QPoly{rat(-1, 2), rat(0, 1), rat(-2, 3)})
	if !zpoly.Same(g, api.ZPoly{whole.Of(3), whole.Of(0), whole.Of(4)}) || !frac.Same(c, rat(-1, 6)) {
		t.Error("clear", g, c)
	}
	if g, c := Clear(nil); len(g) != 0 || !frac.Same(c, rat(0, 1)) {
		t.Error("clear of 0")
	}
	same(t, "from", From(api.ZPoly{whole.Of(1), whole.Of(-2)}), poly(1, -2))
	same(t, "monic", Monic(poly(2, 4)), api.QPoly{rat(1, 2), rat(1, 1)})
	same(t, "monic", Monic(nil), nil)
	if Cmp(poly(9), poly(0, -1)) != -1 || Cmp(poly(1, 2), poly(0, 2)) != 1 || Cmp(poly(1, -2), poly(0, 2)) != -1 || Cmp(nil, nil) != 0 {
		t.Error("cmp")
	}
}

// P10.1, P10.2
func TestRing(t *testing.T) {
	r := rand.New(rand.NewSource(1))
	for range 400 {
		f, g, h := draw(r, 6), draw(r, 6), draw(r, 4)
		a := drawRat(r)
		same(t, "mul", Mul(f, g), slow(f, g))
		same(t, "taken apart", Mul(Add(f, g), h), Add(Mul(f, h), Mul(g, h)))
		same(t, "comes back", Sub(Add(f, g), g), f)
		same(t, "scale", Scale(f, a), Mul(f, trim(api.QPoly{a})))
		same(t, "diff", Diff(Mul(f, g)), Add(Mul(Diff(f), g), Mul(f, Diff(g))))
		if !frac.Same(Value(Mul(f, g), a), frac.Mul(Value(f, a), Value(g, a))) || !frac.Same(Value(Add(f, g), a), frac.Add(Value(f, a), Value(g, a))) || !frac.Same(Value(Compose(f, h), a), Value(f, Value(h, a))) {
			t.Fatal("values")
		}
		same(t, "shift", Shift(f, a), Compose(f, trim(api.QPoly{a, rat(1, 1)})))
		back, c := Clear(f)
		same(t, "clear", Scale(From(back), c), f)
		if len(g) == 0 {
			continue
		}
		q, rest, e := DivMod(f, g)
		same(t, "division", Add(Mul(q, g), rest), f)
		if e != api.OK || Deg(rest) >= Deg(g) || !Right(q) || !Right(rest) {
			t.Fatal("division")
		}
	}
	if q, rest, e := DivMod(poly(1), nil); e != api.ErrZero || len(q)+len(rest) != 0 {
		t.Error("by 0")
	}
	same(t, "shift of 0", Shift(nil, rat(1, 2)), nil)
}

func TestGcd(t *testing.T) {
	r := rand.New(rand.NewSource(2))
	for i := range 400 {
		n := 5
		if i%40 == 0 {
			n = 14
		}
		d := draw(r, 4)
		f, g := Mul(draw(r, n), d), Mul(draw(r, n), d)
		w := Gcd(f, g)
		if !HoldsGcd(f, g, w) {
			t.Fatal(f, g, w)
		}
		if len(d) > 0 && !divides(d, w.G) {
			t.Fatal("what divides both divides the gcd")
		}
		if len(f) > 0 && HoldsGcd(f, g, api.QBezout{G: w.G, U: Add(w.U, poly(1)), V: w.V}) {
			t.Fatal("another U")
		}
		if len(w.G) > 0 && HoldsGcd(f, g, api.QBezout{G: Scale(w.G, rat(2, 1)), U: Scale(w.U, rat(2, 1)), V: Scale(w.V, rat(2, 1))}) {
			t.Fatal("not monic")
		}
	}
	same(t, "gcd", Gcd(poly(-1, 0, 1), poly(-2, 2)).G, poly(-1, 1))
	if !HoldsGcd(nil, nil, Gcd(nil, nil)) || HoldsGcd(nil, nil, api.QBezout{G: poly(1)}) || HoldsGcd(api.QPoly{rat(0, 1)}, nil, api.QBezout{}) {
		t.Error("0 and 0")
	}
	f := poly(-1, 0, 1)
	if HoldsGcd(f, f, api.QBezout{G: poly(1)}) || HoldsGcd(f, f, api.QBezout{G: Mul(f, poly(0, 1)), U: poly(0, 1)}) {
		t.Error("another gcd")
	}
}

func TestInterpolate(t *testing.T) {
	r := rand.New(rand.NewSource(3))
	for range 200 {
		f := draw(r, 7)
		var x, y []api.Rat
		for i := range len(f) + r.Intn(3) {
			x = append(x, rat(i*7-20, 1+i%4*2))
			y = append(y, Value(f, x[i]))
		}
		if len(x) < len(f) {
			continue
		}
		got, e := Interpolate(x, y)
		if e != api.OK {
			t.Fatal(e, x)
		}
		same(t, "interpolate", got, f)
	}
	got, e := Interpolate([]api.Rat{rat(0, 1), rat(1, 1)}, []api.Rat{rat(1, 1), rat(3, 1)})
	same(t, "interpolate", got, poly(1, 2))
	if got, e = Interpolate(nil, nil); e != api.OK || len(got) != 0 {
		t.Error("of none")
	}
	for _, x := range [][]api.Rat{{rat(1, 1)}, {rat(1, 1), rat(2, 1), rat(1, 1)}} {
		if got, e = Interpolate(x, []api.Rat{rat(1, 1), rat(2, 1), rat(5, 1)}); e != api.ErrArg || len(got) != 0 {
			t.Error(x)
		}
	}
}
