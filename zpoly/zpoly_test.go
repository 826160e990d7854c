package zpoly

import (
	"math/rand"
	"testing"

	"algebrist/api"
	"algebrist/whole"
)

func poly(l ...int) api.ZPoly {
	out := make(api.ZPoly, len(l))
	for i, n := range l {
		out[i] = whole.Of(n)
	}
	return trim(out)
}

func draw(r *rand.Rand, n, size int) api.ZPoly {
	out := make(api.ZPoly, r.Intn(n+1))
	for i := range out {
		out[i] = whole.Of(r.Intn(2*size+1) - size)
		if r.Intn(5) == 0 {
			out[i], _ = whole.Pow(out[i], 3)
		}
	}
	return trim(out)
}

func slow(f, g api.ZPoly) api.ZPoly {
	out := make(api.ZPoly, len(f)+len(g)+1)
	for i := range f {
		for j := range g {
			out[i+j] = whole.Add(out[i+j], whole.Mul(f[i], g[j]))
		}
	}
	return trim(out)
}

func same(t *testing.T, what string, got, want api.ZPoly) {
	t.Helper()
	if !Right(got) || !Same(got, want) {
		t.Fatalf("%s: got %v, want %v", what, got, want)
	}
	if cap(got) != len(got) {
		t.Fatalf("%s: spare room", what)
	}
}

// P8.1
func TestKept(t *testing.T) {
	if !Right(nil) || Right(api.ZPoly{whole.Of(0)}) || !Right(poly(0, 1)) || Right(api.ZPoly{{Neg: true}, whole.Of(1)}) || Right(api.ZPoly{whole.Of(1), {Mag: []uint32{1, 0}}}) {
		t.Error("right")
	}
	if !Same(nil, api.ZPoly{}) || Same(poly(1, 2), poly(1, 2, 3)) || Same(poly(1, 2), poly(1, -2)) {
		t.Error("same")
	}
	if Deg(nil) != -1 || Deg(poly(5)) != 0 || Deg(poly(0, 0, 3)) != 2 {
		t.Error("deg")
	}
	if whole.Sign(Lead(nil)) != 0 || !whole.Same(Lead(poly(1, -4)), whole.Of(-4)) {
		t.Error("lead")
	}
	same(t, "const", Const(whole.Of(0)), nil)
	same(t, "const", Const(whole.Of(-3)), poly(-3))
	same(t, "mono", Mono(whole.Of(0), 7), nil)
	same(t, "mono", Mono(whole.Of(2), 3), poly(0, 0, 0, 2))
	if Deg(Mono(whole.Of(1), 1000)) != 1000 || Deg(Shift(poly(1, 1), 1000)) != 1001 || len(Shift(nil, 5)) != 0 {
		t.Error("1000")
	}
	for i, x := range []struct {
		f, g api.ZPoly
		want int
	}{{nil, nil, 0}, {nil, poly(-5), -1}, {poly(9, 9), poly(0, 0, -1), -1}, {poly(1, 2), poly(9, 1), 1}, {poly(1, 2), poly(2, 2), -1}, {poly(3, -1), poly(0, 1), -1}, {poly(4, 4), poly(4, 4), 0}} {
		if Cmp(x.f, x.g) != x.want || Cmp(x.g, x.f) != -x.want {
			t.Error(i)
		}
	}
}

// P8.2, P8.5
func TestRing(t *testing.T) {
	r := rand.New(rand.NewSource(1))
	for i := range 600 {
		n := 6
		if i%20 == 0 {
			n = 120
		}
		f, g, h := draw(r, n, 9), draw(r, n, 9), draw(r, 7, 9)
		a := whole.Of(r.Intn(21) - 10)
		same(t, "mul", Mul(f, g), slow(f, g))
		same(t, "taken apart", Mul(Add(f, g), h), Add(Mul(f, h), Mul(g, h)))
		same(t, "turned round", Mul(f, g), Mul(g, f))
		same(t, "comes back", Sub(Add(f, g), g), f)
		same(t, "neg", Add(f, Neg(f)), nil)
		same(t, "sub", Sub(f, g), Add(f, Neg(g)))
		same(t, "scale", Scale(f, a), Mul(f, Const(a)))
		same(t, "shift", Shift(f, 3), Mul(f, Mono(whole.Of(1), 3)))
		same(t, "diff", Diff(Mul(f, g)), Add(Mul(Diff(f), g), Mul(f, Diff(g))))
		if !whole.Same(Value(Mul(f, g), a), whole.Mul(Value(f, a), Value(g, a))) || !whole.Same(Value(Add(f, g), a), whole.Add(Value(f, a), Value(g, a))) {
			t.Fatal("values")
		}
		if !whole.Same(Content(Mul(f, g)), whole.Mul(Content(f), Content(g))) {
			t.Fatal("contents")
		}
		same(t, "primitive", Primitive(Mul(f, g)), Mul(Primitive(f), Primitive(g)))
		if n < 10 {
			if !whole.Same(Value(Compose(f, h), a), Value(f, Value(h, a))) {
				t.Fatal("compose")
			}
			same(t, "compose", Compose(Mul(f, g), h), Mul(Compose(f, h), Compose(g, h)))
		}
	}
	same(t, "diff", Diff(poly(7)), nil)
	same(t, "diff", Diff(poly(1, 2, 3)), poly(2, 6))
	same(t, "reverse", Reverse(poly(0, 0, 3)), poly(3))
	same(t, "reverse", Reverse(poly(1, 2, 3)), poly(3, 2, 1))
	same(t, "reverse", Reverse(nil), nil)
	same(t, "compose with 0", Compose(poly(4, 5), nil), poly(4))
}

// P8.3
func TestContent(t *testing.T) {
	if !whole.Same(Content(poly(6, -4)), whole.Of(2)) || whole.Sign(Content(nil)) != 0 || !whole.Same(Content(poly(-7)), whole.Of(7)) {
		t.Error("content")
	}
	same(t, "primitive", Primitive(poly(6, -4)), poly(-3, 2))
	same(t, "primitive", Primitive(poly(-7)), poly(1))
	same(t, "primitive", Primitive(nil), nil)
}

// P8.4
func TestDivision(t *testing.T) {
	r := rand.New(rand.NewSource(2))
	for range 600 {
		f, g := draw(r, 9, 20), draw(r, 6, 20)
		if len(g) == 0 {
			continue
		}
		q, e := Exact(Mul(f, g), g)
		if e != api.OK {
			t.Fatal(e)
		}
		same(t, "exact", q, f)
		if q, e := Exact(Add(Mul(f, g), poly(1)), g); Deg(g) > 0 && (e != api.ErrNone || len(q) != 0) {
			t.Fatal("exact", e)
		}
		q, rest, k, e := Pseudo(f, g)
		power, _ := whole.Pow(Lead(g), k)
		if e != api.OK || k != max(0, Deg(f)-Deg(g)+1) || Deg(rest) >= Deg(g) {
			t.Fatal("pseudo", f, g, k)
		}
		same(t, "pseudo", Add(Mul(q, g), rest), Scale(f, power))
		if !Right(q) || !Right(rest) {
			t.Fatal("pseudo")
		}
	}
	q, rest, k, e := Pseudo(poly(0, 0, 1), poly(1, 2))
	same(t, "q", q, poly(-1, 2))
	same(t, "r", rest, poly(1))
	if k != 2 || e != api.OK {
		t.Error(k, e)
	}
	if q, rest, k, e := Pseudo(poly(1), nil); e != api.ErrZero || len(q)+len(rest)+k != 0 {
		t.Error(e)
	}
	if q, rest, k, e := Pseudo(nil, poly(1, 1)); e != api.OK || len(q)+len(rest)+k != 0 {
		t.Error(e)
	}
	if q, e := Exact(nil, nil); e != api.ErrZero || len(q) != 0 {
		t.Error(e)
	}
	if _, e := Exact(poly(1, 1), poly(0, 2)); e != api.ErrNone {
		t.Error(e)
	}
	if _, e := Exact(poly(2, 3), poly(2)); e != api.ErrNone {
		t.Error(e)
	}
	if _, e := Exact(poly(2), poly(0, 1)); e != api.ErrNone {
		t.Error(e)
	}
	for _, n := range []int{-1, 1001} {
		if f, e := Pow(poly(1, 1), n); e != api.ErrRange || len(f) != 0 {
			t.Error(n)
		}
	}
	f, e := Pow(poly(1, 1), 3)
	same(t, "pow", f, poly(1, 3, 3, 1))
	if e != api.OK {
		t.Error(e)
	}
	f, _ = Pow(nil, 0)
	same(t, "pow", f, poly(1))
	f, _ = Pow(poly(0, -1), 1000)
	same(t, "pow", f, Mono(whole.Of(1), 1000))
}

func TestHandedInStays(t *testing.T) {
	room := poly(1, 2, 3, 4)
	f := room[:2]
	for _, out := range []api.ZPoly{Add(f, nil), Sub(f, nil), Neg(f), Reverse(f), Shift(f, 0), Primitive(f), Mul(f, poly(1)), Const(f[0])} {
		_ = append(out, whole.Of(99))
		out[0] = whole.Of(77)
	}
	if !Same(room, poly(1, 2, 3, 4)) {
		t.Error(room)
	}
}
