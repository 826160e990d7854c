package ppoly

import (
	"math/rand"
	"testing"

	"algebrist/api"
	"algebrist/whole"
)

const great = 1<<31 - 1

func poly(p uint32, c ...uint32) api.PPoly { return trim(p, c) }

func draw(r *rand.Rand, p uint32, n int) api.PPoly {
	c := make([]uint32, r.Intn(n+1))
	for i := range c {
		c[i] = r.Uint32() % p
		if r.Intn(4) == 0 {
			c[i] = p - 1
		}
	}
	return trim(p, c)
}

func same(t *testing.T, what string, got, want api.PPoly) {
	t.Helper()
	if !Right(got) || !Same(got, want) {
		t.Fatalf("%s: got %v, want %v", what, got, want)
	}
}

// P9.1
func TestKept(t *testing.T) {
	for i, x := range []struct {
		f    api.PPoly
		want bool
	}{{api.PPoly{}, false}, {api.PPoly{P: 5}, true}, {api.PPoly{P: 4}, false}, {api.PPoly{P: 5, C: []uint32{5, 1}}, false}, {api.PPoly{P: 5, C: []uint32{1, 0}}, false}, {api.PPoly{P: 5, C: []uint32{0, 4}}, true}, {api.PPoly{P: 4294967291, C: []uint32{1}}, false}, {api.PPoly{P: great, C: []uint32{great - 1}}, true}} {
		if Right(x.f) != x.want {
			t.Error(i)
		}
	}
	if Same(poly(5, 1), poly(7, 1)) || !Same(poly(5), api.PPoly{P: 5, C: []uint32{}}) || Same(poly(5, 1), poly(5, 1, 1)) {
		t.Error("same")
	}
	if Deg(poly(5)) != -1 || Deg(poly(5, 0, 2)) != 1 {
		t.Error("deg")
	}
	if Cmp(poly(5, 4), poly(5, 0, 1)) != -1 || Cmp(poly(5, 4, 1), poly(5, 0, 2)) != -1 || Cmp(poly(5, 4, 1), poly(5, 3, 1)) != 1 || Cmp(poly(5), poly(5)) != 0 {
		t.Error("cmp")
	}
}

// P9.2
func TestUp(t *testing.T) {
	f := From(5, api.ZPoly{whole.Of(-1), whole.Of(12), whole.Of(3), whole.Of(10)})
	same(t, "from", f, poly(5, 4, 2, 3))
	for i, x := range []struct{ got, want []int }{{ints(Up(f)), []int{4, 2, 3}}, {ints(Sym(f)), []int{-1, 2, -2}}, {ints(Sym(poly(2, 1, 1))), []int{1, 1}}, {ints(Sym(poly(great, great/2, great/2+1))), []int{great / 2, -(great / 2)}}} {
		for j := range x.want {
			if x.got[j] != x.want[j] {
				t.Error(i, x.got)
			}
		}
	}
}

func ints(f api.ZPoly) []int {
	var out []int
	for _, a := range f {
		n, _ := whole.Int(a)
		out = append(out, n)
	}
	return out
}

// P9.3, P9.4, P9.7
func TestRing(t *testing.T) {
	r := rand.New(rand.NewSource(1))
	for _, p := range []uint32{2, 3, 101, 2147483629, great} {
		for range 200 {
			f, g, h := draw(r, p, 12), draw(r, p, 8), draw(r, p, 8)
			a := r.Uint32() % p
			same(t, "taken apart", Mul(Add(f, g), h), Add(Mul(f, h), Mul(g, h)))
			same(t, "turned round", Mul(f, g), Mul(g, f))
			same(t, "comes back", Sub(Add(f, g), g), f)
			same(t, "scale", Scale(f, a), Mul(f, constant(p, a)))
			same(t, "diff", Diff(Mul(f, g)), Add(Mul(Diff(f), g), Mul(f, Diff(g))))
			v, w := uint64(Value(f, a)), uint64(Value(g, a))
			if uint64(Value(Mul(f, g), a)) != v*w%uint64(p) || uint64(Value(Add(f, g), a)) != (v+w)%uint64(p) {
				t.Fatal("values")
			}
			unit, m := Monic(f)
			same(t, "monic", Scale(m, unit), f)
			if len(f.C) > 0 && m.C[len(m.C)-1] != 1 {
				t.Fatal("monic")
			}
			if len(g.C) == 0 {
				continue
			}
			q, rest, e := DivMod(f, g)
			same(t, "division", Add(Mul(q, g), rest), f)
			if e != api.OK || Deg(rest) >= Deg(g) || !Right(q) || !Right(rest) {
				t.Fatal("division")
			}
		}
	}
	same(t, "mul", Mul(poly(7, 1, 2), poly(7, 3, 4)), poly(7, 3, 3, 1))
	same(t, "diff", Diff(poly(3, 1, 1, 1, 1)), poly(3, 1, 2))
	if u, g := Monic(poly(5)); u != 0 || !Same(g, poly(5)) {
		t.Error("monic of 0")
	}
	if q, rest, e := DivMod(poly(5, 1), poly(5)); e != api.ErrZero || q.P != 0 || rest.P != 0 {
		t.Error("by 0")
	}
}

// P9.5
func TestGcd(t *testing.T) {
	r := rand.New(rand.NewSource(2))
	for _, p := range []uint32{2, 3, 101, great} {
		for range 200 {
			d := draw(r, p, 5)
			f, g := Mul(draw(r, p, 6), d), Mul(draw(r, p, 6), d)
			w := Gcd(f, g)
			if !HoldsGcd(f, g, w) {
				t.Fatal(p, f, g, w)
			}
			if Deg(d) >= 0 && (len(f.C) > 0 || len(g.C) > 0) && !divides(d, w.G) {
				t.Fatal("what divides both divides the gcd")
			}
			bad := w
			bad.U = Add(w.U, constant(p, 1))
			if len(f.C) > 0 && HoldsGcd(f, g, bad) {
				t.Fatal("another U")
			}
			if p > 2 && len(w.G.C) > 0 && HoldsGcd(f, g, api.PBezout{G: Scale(w.G, 2), U: Scale(w.U, 2), V: Scale(w.V, 2)}) {
				t.Fatal("not monic")
			}
		}
	}
	w := Gcd(poly(5, 4, 0, 1), poly(5, 1, 1))
	same(t, "gcd", w.G, poly(5, 1, 1))
	zero, one := poly(5), poly(5, 1)
	if !HoldsGcd(zero, zero, api.PBezout{G: zero, U: one, V: zero}) || HoldsGcd(zero, zero, api.PBezout{G: one, U: one, V: one}) {
		t.Error("0 and 0")
	}
	f := poly(5, 4, 0, 1)
	if HoldsGcd(f, f, api.PBezout{G: one, U: zero, V: zero}) || HoldsGcd(f, poly(7, 1), w) || HoldsGcd(f, one, api.PBezout{}) || HoldsGcd(api.PPoly{}, api.PPoly{}, api.PBezout{}) {
		t.Error("wrong ones")
	}
	if HoldsGcd(f, poly(5, 1, 1), api.PBezout{G: one, U: w.U, V: w.V}) || HoldsGcd(f, f, api.PBezout{G: Mul(f, poly(5, 0, 1)), U: poly(5, 0, 1), V: zero}) {
		t.Error("another gcd")
	}
}

// P9.6, P9.7
func TestPowers(t *testing.T) {
	r := rand.New(rand.NewSource(3))
	for _, p := range []uint32{2, 3, 13} {
		for range 60 {
			f, m := draw(r, p, 7), draw(r, p, 6)
			if len(m.C) == 0 {
				continue
			}
			want := rest(constant(p, 1), m)
			for n := range 20 {
				got, e := PowMod(f, whole.Of(n), m)
				if e != api.OK {
					t.Fatal(e)
				}
				same(t, "pow", got, want)
				want = rest(Mul(want, f), m)
			}
			for k := range 7 {
				n, _ := whole.Pow(whole.Of(int(p)), k)
				a, _ := PowMod(f, n, m)
				b, e := Frob(f, m, k)
				if e != api.OK {
					t.Fatal(e)
				}
				same(t, "frob", b, a)
			}
			one, two := poly(p, 0, 1), rest(f, m)
			for range p {
				one = rest(one, m)
			}
			xp, _ := PowMod(one, whole.Of(int(p)), m)
			fp, _ := PowMod(f, whole.Of(int(p)), m)
			same(t, "f to the p", fp, compose(two, xp, m))
		}
	}
	f, m := poly(5, 1, 1), poly(5, 2, 0, 1)
	if g, e := PowMod(f, whole.Of(-1), poly(5)); e != api.ErrArg || g.P != 0 {
		t.Error(e)
	}
	if g, e := PowMod(f, whole.Of(1), poly(5)); e != api.ErrZero || g.P != 0 {
		t.Error(e)
	}
	if g, e := Frob(f, poly(5), 1001); e != api.ErrRange || g.P != 0 {
		t.Error(e)
	}
	if _, e := Frob(f, m, -1); e != api.ErrRange {
		t.Error(e)
	}
	if g, e := Frob(f, poly(5), 3); e != api.ErrZero || g.P != 0 {
		t.Error(e)
	}
	if g, e := Frob(f, m, 1000); e != api.OK || !Same(g, f) {
		t.Error(g, e)
	}
	if g, e := PowMod(f, whole.Of(0), poly(5, 3)); e != api.OK || g.P != 5 || len(g.C) != 0 {
		t.Error(g, e)
	}
}
