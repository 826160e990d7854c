package euclid

import (
	"math/big"
	"math/rand"
	"testing"

	"algebrist/api"
	"algebrist/whole"
)

func of(x *big.Int) api.Int {
	out := api.Int{Neg: x.Sign() < 0}
	for y := new(big.Int).Abs(x); y.Sign() > 0; y.Rsh(y, 32) {
		out.Mag = append(out.Mag, uint32(new(big.Int).And(y, big.NewInt(0xffffffff)).Uint64()))
	}
	return out
}

func toBig(a api.Int) *big.Int {
	out := new(big.Int)
	for i := len(a.Mag) - 1; i >= 0; i-- {
		out.Lsh(out, 32).Or(out, big.NewInt(int64(a.Mag[i])))
	}
	if a.Neg {
		out.Neg(out)
	}
	return out
}

func draw(r *rand.Rand, bits int) *big.Int {
	x := new(big.Int).Rand(r, new(big.Int).Lsh(big.NewInt(1), uint(r.Intn(bits))))
	if r.Intn(2) == 0 {
		x.Neg(x)
	}
	return x
}

func same(t *testing.T, what string, got api.Int, want *big.Int) {
	t.Helper()
	if !whole.Right(got) || toBig(got).Cmp(want) != 0 {
		t.Fatalf("%s: got %v, want %v", what, toBig(got), want)
	}
}

// P4.1, P4.2
func TestGcd(t *testing.T) {
	r := rand.New(rand.NewSource(1))
	for i := range 3000 {
		size := 150
		if i%50 == 0 {
			size = 4000
		}
		g := draw(r, size)
		a, b := new(big.Int).Mul(draw(r, size), g), new(big.Int).Mul(draw(r, size), g)
		x, y := of(a), of(b)
		want := new(big.Int).GCD(nil, nil, new(big.Int).Abs(a), new(big.Int).Abs(b))
		w := Gcd(x, y)
		same(t, "gcd", w.G, want)
		if !Holds(x, y, w) {
			t.Fatal("gcd doesn't hold", a, b, w)
		}
		same(t, "gcd times lcm", whole.Mul(w.G, Lcm(x, y)), new(big.Int).Abs(new(big.Int).Mul(a, b)))
		for _, bad := range []api.IntBezout{{G: whole.Add(w.G, whole.Of(1)), U: w.U, V: w.V}, {G: whole.Neg(w.G), U: whole.Neg(w.U), V: whole.Neg(w.V)}} {
			if whole.Sign(w.G) != 0 && Holds(x, y, bad) {
				t.Fatal("holds", bad)
			}
		}
	}
	if Holds(whole.Of(0), whole.Of(0), api.IntBezout{G: whole.Of(1)}) || !Holds(whole.Of(0), whole.Of(0), api.IntBezout{}) || !Holds(whole.Of(0), whole.Of(0), api.IntBezout{U: whole.Of(3)}) {
		t.Error("0 and 0")
	}
	four, six := whole.Of(4), whole.Of(6)
	if Holds(four, six, api.IntBezout{G: four, U: whole.Of(1)}) || Holds(four, six, api.IntBezout{G: whole.Of(1), U: whole.Of(-1), V: whole.Of(1)}) {
		t.Error("4 and 6")
	}
	bad := api.Int{Mag: []uint32{2, 0}}
	if Holds(bad, six, api.IntBezout{G: whole.Of(2), U: whole.Of(1)}) || Holds(four, six, api.IntBezout{G: bad, U: whole.Of(-1), V: whole.Of(1)}) || Holds(four, six, api.IntBezout{G: whole.Of(2), U: api.Int{Neg: true, Mag: []uint32{1, 0}}, V: whole.Of(1)}) {
		t.Error("what may not be")
	}
}

func TestModulo(t *testing.T) {
	r := rand.New(rand.NewSource(2))
	for range 2000 {
		a, n, m := draw(r, 90), new(big.Int).Abs(draw(r, 40)), new(big.Int).Abs(draw(r, 90))
		m.Add(m, big.NewInt(1))
		p, e := Pow(of(a), of(n), of(m))
		if e != api.OK {
			t.Fatal(e)
		}
		same(t, "pow", p, new(big.Int).Exp(new(big.Int).Mod(a, m), n, m))
		inv, e := Inverse(of(a), of(m))
		coprime := new(big.Int).GCD(nil, nil, new(big.Int).Mod(a, m), m).Cmp(big.NewInt(1)) == 0
		if coprime != (e == api.OK) || !coprime && e != api.ErrNone {
			t.Fatal("inverse", a, m, e)
		}
		if coprime {
			d := new(big.Int).Mul(toBig(inv), a)
			d.Sub(d, big.NewInt(1)).Mod(d, m)
			if d.Sign() != 0 || toBig(inv).Sign() < 0 || toBig(inv).Cmp(m) >= 0 {
				t.Fatal("inverse", a, m, inv)
			}
		}
	}
	for _, m := range []int{0, -3} {
		if _, e := Inverse(whole.Of(1), whole.Of(m)); e != api.ErrArg {
			t.Error(m)
		}
		if _, e := Pow(whole.Of(1), whole.Of(1), whole.Of(m)); e != api.ErrArg {
			t.Error(m)
		}
		if _, e := Rebuild(whole.Of(1), whole.Of(m)); e != api.ErrArg {
			t.Error(m)
		}
	}
	if _, e := Pow(whole.Of(1), whole.Of(-1), whole.Of(5)); e != api.ErrArg {
		t.Error("below 0")
	}
	if x, e := Pow(whole.Of(5), whole.Of(0), whole.Of(1)); e != api.OK || whole.Sign(x) != 0 {
		t.Error("modulo 1")
	}
	if x, e := Inverse(whole.Of(5), whole.Of(1)); e != api.OK || whole.Sign(x) != 0 {
		t.Error("modulo 1")
	}
}

func ints(l ...int) []api.Int {
	var out []api.Int
	for _, n := range l {
		out = append(out, whole.Of(n))
	}
	return out
}

func TestChinese(t *testing.T) {
	r := rand.New(rand.NewSource(3))
	for range 2000 {
		n := r.Intn(4)
		var rs, ms []int
		for range n {
			rs, ms = append(rs, r.Intn(41)-20), append(ms, 1+r.Intn(12))
		}
		lcm := 1
		for _, m := range ms {
			a, b := lcm, m
			for b != 0 {
				a, b = b, a%b
			}
			lcm = lcm / a * m
		}
		want := -1
		for x := range lcm {
			ok := true
			for i := range ms {
				ok = ok && (x-rs[i])%ms[i] == 0
			}
			if ok {
				want = x
				break
			}
		}
		x, m, e := Chinese(ints(rs...), ints(ms...))
		if want < 0 {
			if e != api.ErrNone || len(x.Mag)+len(m.Mag) != 0 {
				t.Fatal(rs, ms, e)
			}
		} else if e != api.OK || !whole.Same(x, whole.Of(want)) || !whole.Same(m, whole.Of(lcm)) {
			t.Fatal(rs, ms, x, m, e)
		}
	}
	if _, _, e := Chinese(ints(1, 1), ints(2)); e != api.ErrArg {
		t.Error("lengths")
	}
	if _, _, e := Chinese(ints(0, 1, 1), ints(2, 2, 0)); e != api.ErrArg {
		t.Error("0")
	}
}

func TestRoot(t *testing.T) {
	r := rand.New(rand.NewSource(4))
	for range 2000 {
		a, k := new(big.Int).Abs(draw(r, 700)), 1+r.Intn(20)
		if r.Intn(3) == 0 {
			a.Exp(new(big.Int).Abs(draw(r, 40)), big.NewInt(int64(k)), nil)
		}
		x, exact, e := Root(of(a), k)
		low := new(big.Int).Exp(toBig(x), big.NewInt(int64(k)), nil)
		high := new(big.Int).Exp(new(big.Int).Add(toBig(x), big.NewInt(1)), big.NewInt(int64(k)), nil)
		if e != api.OK || low.Cmp(a) > 0 || high.Cmp(a) <= 0 || exact != (low.Cmp(a) == 0) {
			t.Fatal(a, k, x)
		}
	}
	for _, k := range []int{0, -1, 1001} {
		if x, ok, e := Root(whole.Of(4), k); e != api.ErrArg || ok || len(x.Mag) != 0 {
			t.Error(k)
		}
	}
	if _, _, e := Root(whole.Of(-1), 3); e != api.ErrArg {
		t.Error("below 0")
	}
	if x, ok, e := Root(whole.Of(5), 1000); !whole.Same(x, whole.Of(1)) || ok || e != api.OK {
		t.Error(x)
	}
	if x, ok, e := Root(whole.Of(0), 1000); whole.Sign(x) != 0 || !ok || e != api.OK {
		t.Error(x)
	}
}

func TestRebuild(t *testing.T) {
	for m := 1; m < 130; m++ {
		bound := 0
		for 2*(bound+1)*(bound+1) <= m-1 {
			bound++
		}
		for a := range m {
			var wantN, wantD int
			for d := 1; d <= bound; d++ {
				for n := -bound; n <= bound; n++ {
					if (a*d-n)%m == 0 && gcd(n, d) == 1 && gcd(d, m) == 1 {
						wantN, wantD = n, d
					}
				}
			}
			got, e := Rebuild(whole.Of(a-m), whole.Of(m))
			if wantD == 0 {
				if e != api.ErrNone || len(got.Den.Mag) != 0 {
					t.Fatal(a, m, got, e)
				}
			} else if e != api.OK || !whole.Same(got.Num, whole.Of(wantN)) || !whole.Same(got.Den, whole.Of(wantD)) {
				t.Fatal(a, m, got, e, wantN, wantD)
			}
		}
	}
}

func gcd(a, b int) int {
	for b != 0 {
		a, b = b, a%b
	}
	return max(a, -a)
}
