package whole

import (
	"math"
	"math/big"
	"math/rand"
	"slices"
	"testing"

	"algebrist/api"
)

func toBig(a api.Int) *big.Int {
	out := new(big.Int)
	for i := len(a.Mag) - 1; i >= 0; i-- {
		out.Lsh(out, 32).Or(out, big.NewInt(int64(a.Mag[i])))
	}
	if a.Neg {
		out.Neg(out)
	}
	return out
}

func draw(r *rand.Rand) api.Int {
	out := api.Int{Mag: make([]uint32, r.Intn(4))}
	for i := range out.Mag {
		out.Mag[i] = r.Uint32() >> uint(r.Intn(32))
	}
	for len(out.Mag) > 0 && out.Mag[len(out.Mag)-1] == 0 {
		out.Mag = out.Mag[:len(out.Mag)-1]
	}
	out.Neg = len(out.Mag) > 0 && r.Intn(2) == 0
	return out
}

func same(t *testing.T, what string, got api.Int, want *big.Int) {
	t.Helper()
	if !Right(got) || toBig(got).Cmp(want) != 0 {
		t.Fatalf("%s: got %v, want %v", what, got, want)
	}
}

// P2.1
func TestKept(t *testing.T) {
	for i, x := range []struct {
		a    api.Int
		want bool
	}{{api.Int{}, true}, {api.Int{Neg: true}, false}, {api.Int{Mag: []uint32{0}}, false}, {api.Int{Neg: true, Mag: []uint32{0, 1}}, true}, {api.Int{Mag: []uint32{1, 0}}, false}} {
		if Right(x.a) != x.want {
			t.Error(i)
		}
	}
	if !Same(api.Int{}, api.Int{Mag: []uint32{}}) || Same(api.Int{}, api.Int{Neg: true}) || Same(Of(1), Of(-1)) || !Same(Of(-7), Of(-7)) || Same(api.Int{Mag: []uint32{1}}, api.Int{Mag: []uint32{1, 0}}) {
		t.Error("same")
	}
	for _, n := range []int{0, 1, -1, math.MaxInt, math.MinInt, 1 << 32, -1 << 32} {
		same(t, "of", Of(n), big.NewInt(int64(n)))
		if got, ok := Int(Of(n)); !ok || got != n {
			t.Error(n, got)
		}
	}
	for _, a := range []api.Int{Add(Of(math.MaxInt), Of(1)), Sub(Of(math.MinInt), Of(1)), {Mag: []uint32{0, 0, 1}}} {
		if n, ok := Int(a); ok || n != 0 {
			t.Error(a)
		}
	}
}

// P2.2, P2.3, P2.4
func TestAgainstBig(t *testing.T) {
	r := rand.New(rand.NewSource(1))
	for range 4000 {
		a, b := draw(r), draw(r)
		x, y := toBig(a), toBig(b)
		same(t, "add", Add(a, b), new(big.Int).Add(x, y))
		same(t, "sub", Sub(a, b), new(big.Int).Sub(x, y))
		same(t, "mul", Mul(a, b), new(big.Int).Mul(x, y))
		same(t, "neg", Neg(a), new(big.Int).Neg(x))
		same(t, "abs", Abs(a), new(big.Int).Abs(x))
		if Cmp(a, b) != x.Cmp(y) || Sign(a) != x.Sign() || Cmp(a, a) != 0 {
			t.Fatal("cmp")
		}
		if b.Mag == nil || len(b.Mag) == 0 {
			continue
		}
		q, m := new(big.Int).DivMod(x, y, new(big.Int))
		gq, gm, e := DivMod(a, b)
		if e != api.OK {
			t.Fatal(e)
		}
		same(t, "quotient", gq, q)
		same(t, "rest", gm, m)
		back, e := Exact(Mul(a, b), b)
		if e != api.OK {
			t.Fatal(e)
		}
		same(t, "exact", back, x)
		if got, e := Exact(a, b); (e == api.OK) != (m.Sign() == 0) || e != api.OK && (e != api.ErrNone || len(got.Mag) != 0) {
			t.Fatal("exact", e)
		}
		n := r.Intn(9)
		p, e := Pow(a, n)
		if e != api.OK {
			t.Fatal(e)
		}
		same(t, "pow", p, new(big.Int).Exp(x, big.NewInt(int64(n)), nil))
		mod := Abs(b)
		s, e := Symmetric(a, mod)
		twice := new(big.Int).Lsh(toBig(s), 1)
		if e != api.OK || twice.Cmp(toBig(mod)) > 0 || twice.Cmp(toBig(Neg(mod))) <= 0 || new(big.Int).Mod(new(big.Int).Sub(x, toBig(s)), toBig(mod)).Sign() != 0 {
			t.Fatal("symmetric", x, y, toBig(s))
		}
	}
}

func TestEdges(t *testing.T) {
	if q, r, e := DivMod(Of(5), Of(0)); e != api.ErrZero || len(q.Mag)+len(r.Mag) != 0 {
		t.Error(e)
	}
	if q, e := Exact(Of(0), Of(0)); e != api.ErrZero || len(q.Mag) != 0 {
		t.Error(e)
	}
	if q, e := Exact(Of(0), Of(-3)); e != api.OK || q.Neg || len(q.Mag) != 0 {
		t.Error(e)
	}
	for _, n := range []int{-1, 1001, math.MinInt, math.MaxInt} {
		if p, e := Pow(Of(2), n); e != api.ErrRange || len(p.Mag) != 0 {
			t.Error(n)
		}
	}
	if p, e := Pow(Of(0), 0); e != api.OK || !Same(p, Of(1)) {
		t.Error("0 to the 0")
	}
	if p, e := Pow(Of(-1), 1000); e != api.OK || !Same(p, Of(1)) {
		t.Error("1000")
	}
	for _, m := range []int{0, -4} {
		if s, e := Symmetric(Of(3), Of(m)); e != api.ErrArg || len(s.Mag) != 0 {
			t.Error(m)
		}
	}
	for i, x := range [][3]int{{7, 4, -1}, {6, 4, 2}, {-6, 4, 2}, {5, 1, 0}, {-7, 5, -2}} {
		if s, _ := Symmetric(Of(x[0]), Of(x[1])); !Same(s, Of(x[2])) {
			t.Error(i)
		}
	}
	for i, x := range [][4]int{{-7, 2, -4, 1}, {-7, -2, 4, 1}, {7, -2, -3, 1}, {-6, 3, -2, 0}} {
		if q, r, _ := DivMod(Of(x[0]), Of(x[1])); !Same(q, Of(x[2])) || !Same(r, Of(x[3])) {
			t.Error(i)
		}
	}
}

// P2.5
func TestRing(t *testing.T) {
	r := rand.New(rand.NewSource(2))
	for range 500 {
		a, b, c := draw(r), draw(r), draw(r)
		if !Same(Mul(a, Add(b, c)), Add(Mul(a, b), Mul(a, c))) || !Same(Add(a, b), Add(b, a)) || !Same(Sub(Add(a, b), b), a) || !Same(Mul(Mul(a, b), c), Mul(a, Mul(b, c))) {
			t.Fatal("ring")
		}
		if Cmp(a, b) != Cmp(Add(a, c), Add(b, c)) || Cmp(a, b) != -Cmp(b, a) || Sign(c) > 0 && Cmp(a, b) != Cmp(Mul(a, c), Mul(b, c)) {
			t.Fatal("order")
		}
	}
}

func TestHandedInStays(t *testing.T) {
	room := []uint32{5, 6, 7, 8}
	a := api.Int{Mag: room[:2]}
	for _, out := range []api.Int{Neg(a), Abs(a), Add(a, Of(0)), Sub(Of(1), a), Mul(a, Of(1))} {
		_ = append(out.Mag, 99)
		out.Mag[0] = 77
	}
	if !slices.Equal(room, []uint32{5, 6, 7, 8}) {
		t.Error(room)
	}
}
