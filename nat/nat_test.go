package nat

import (
	"math"
	"math/big"
	"math/rand"
	"slices"
	"testing"
)

func toBig(a []uint32) *big.Int {
	out := new(big.Int)
	for i := len(a) - 1; i >= 0; i-- {
		out.Lsh(out, 32).Or(out, big.NewInt(int64(a[i])))
	}
	return out
}

func of(x *big.Int) []uint32 {
	var out []uint32
	mask := big.NewInt(math.MaxUint32)
	for y := new(big.Int).Set(x); y.Sign() > 0; y.Rsh(y, 32) {
		out = append(out, uint32(new(big.Int).And(y, mask).Uint64()))
	}
	return out
}

// draw makes numbers of which many limbs are at their ends, where carries run far.
func draw(r *rand.Rand, n int) []uint32 {
	out := make([]uint32, r.Intn(n+1))
	for i := range out {
		switch r.Intn(4) {
		case 0:
			out[i] = 0
		case 1:
			out[i] = math.MaxUint32
		case 2:
			out[i] = 1 << 31
		default:
			out[i] = r.Uint32()
		}
	}
	for len(out) > 0 && out[len(out)-1] == 0 {
		out = out[:len(out)-1]
	}
	return out
}

func same(t *testing.T, what string, got []uint32, want *big.Int) {
	t.Helper()
	if !Right(got) || toBig(got).Cmp(want) != 0 {
		t.Fatalf("%s: got %v, want %v", what, toBig(got), want)
	}
	if cap(got) != len(got) {
		t.Fatalf("%s: spare room", what)
	}
}

// P1.1
func TestAgainstBig(t *testing.T) {
	r := rand.New(rand.NewSource(1))
	for i := range 6000 {
		size := 6
		if i%10 == 0 {
			size = 400
		}
		a, b := draw(r, size), draw(r, size)
		x, y := toBig(a), toBig(b)
		same(t, "add", Add(a, b), new(big.Int).Add(x, y))
		same(t, "mul", Mul(a, b), new(big.Int).Mul(x, y))
		if Cmp(a, b) != x.Cmp(y) {
			t.Fatal("cmp", x, y)
		}
		if d, ok := Sub(a, b); ok != (x.Cmp(y) >= 0) {
			t.Fatal("sub", x, y)
		} else if ok {
			same(t, "sub", d, new(big.Int).Sub(x, y))
		} else if len(d) != 0 {
			t.Fatal("sub answers something")
		}
		if Len(a) != x.BitLen() {
			t.Fatal("len", x)
		}
		if len(b) > 0 {
			q, rest, ok := DivMod(a, b)
			wq, wr := new(big.Int).QuoRem(x, y, new(big.Int))
			same(t, "quotient", q, wq)
			same(t, "rest", rest, wr)
			if !ok {
				t.Fatal("divmod")
			}
		}
		n := r.Intn(200)
		same(t, "shl", Shl(a, n), new(big.Int).Lsh(x, uint(n)))
		same(t, "shr", Shr(a, n), new(big.Int).Rsh(x, uint(n)))
	}
}

func TestEdges(t *testing.T) {
	if q, r, ok := DivMod([]uint32{7}, nil); ok || len(q)+len(r) != 0 {
		t.Error("by 0")
	}
	if len(Shl([]uint32{1}, -1)) != 0 || len(Shl([]uint32{1}, 100001)) != 0 || Len(Shl([]uint32{1}, 100000)) != 100001 {
		t.Error("shl")
	}
	if len(Shr(Shl([]uint32{3}, 100000), 100001)) != 0 || !slices.Equal(Shr(Shl([]uint32{3}, 100000), 100000), []uint32{3}) {
		t.Error("shr")
	}
	for n := range 12 {
		same(t, "pow", Pow([]uint32{10, 3}, n), new(big.Int).Exp(toBig([]uint32{10, 3}), big.NewInt(int64(n)), nil))
	}
	same(t, "pow", Pow([]uint32{3}, 1000), new(big.Int).Exp(big.NewInt(3), big.NewInt(1000), nil))
	if !slices.Equal(Pow(nil, 0), []uint32{1}) || len(Pow(nil, 3)) != 0 || len(Pow([]uint32{2}, 1001)) != 0 || len(Pow([]uint32{2}, -1)) != 0 {
		t.Error("pow at its ends")
	}
	if Right([]uint32{1, 0}) || !Right(nil) || !Right([]uint32{0, 1}) {
		t.Error("right")
	}
	for _, n := range []uint64{0, 1, math.MaxUint32, 1 << 32, math.MaxUint64} {
		if got, ok := Uint(Of(n)); !ok || got != n || !Right(Of(n)) {
			t.Error(n)
		}
	}
	if n, ok := Uint([]uint32{0, 0, 1}); ok || n != 0 {
		t.Error("uint")
	}
}

// P1.2
func TestLaws(t *testing.T) {
	r := rand.New(rand.NewSource(2))
	for range 500 {
		a, b, c := draw(r, 120), draw(r, 120), draw(r, 8)
		if !slices.Equal(Mul(a, b), Mul(b, a)) || !slices.Equal(Add(a, b), Add(b, a)) {
			t.Fatal("turned round")
		}
		if !slices.Equal(Mul(Add(a, b), c), Add(Mul(a, c), Mul(b, c))) || !slices.Equal(Mul(Mul(a, b), c), Mul(a, Mul(b, c))) {
			t.Fatal("taken apart")
		}
		if d, ok := Sub(Add(a, b), b); !ok || !slices.Equal(d, a) {
			t.Fatal("difference")
		}
		if len(b) > 0 {
			q, rest, _ := DivMod(a, b)
			if !slices.Equal(Add(Mul(q, b), rest), a) || Cmp(rest, b) >= 0 {
				t.Fatal("quotient")
			}
		}
		if !slices.Equal(Shr(Shl(a, 77), 77), a) {
			t.Fatal("shift")
		}
	}
}

// What is handed in stays, its spare room too.
func TestHandedInStays(t *testing.T) {
	room := []uint32{5, 6, 7, 8}
	a, b := room[:2], []uint32{9}
	for _, out := range [][]uint32{Add(a, b), Mul(a, b), Shl(a, 3), Shr(a, 3), Pow(a, 2), Add(a, nil), Pow(a, 1)} {
		_ = append(out, 99)
	}
	q, r, _ := DivMod(b, a)
	_ = append(append(q, 99), append(r, 99)...)
	d, _ := Sub(a, nil)
	_ = append(d, 99)
	if !slices.Equal(room, []uint32{5, 6, 7, 8}) || b[0] != 9 {
		t.Error(room)
	}
}

// Quotients whose digits, guessed of the first words, are one too great.
func TestGuessesTooGreat(t *testing.T) {
	words := func(l ...uint64) []uint32 { return unpack(l) }
	top := uint64(1) << 63
	for i, x := range [][2][]uint32{
		{words(0, 0, top, top-1), words(1, 0, top)},
		{words(3, 0, top), words(1, 0, 1<<61)},
		{words(0, math.MaxUint64-1, top), words(math.MaxUint64, top)},
		{words(0, 0, 0, top, top-1), words(1, 0, 0, top)},
		{words(0, 0, 1, top), words(math.MaxUint64, 0, top)},
	} {
		q, r, ok := DivMod(x[0], x[1])
		wq, wr := new(big.Int).QuoRem(toBig(x[0]), toBig(x[1]), new(big.Int))
		same(t, "quotient", q, wq)
		same(t, "rest", r, wr)
		if !ok {
			t.Error(i)
		}
	}
}
