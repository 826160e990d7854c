package lehmer

import (
	"math/big"
	"math/rand"
	"testing"
)

func toBig(a []uint32) *big.Int {
	out := new(big.Int)
	for i := len(a) - 1; i >= 0; i-- {
		out.Lsh(out, 32).Or(out, big.NewInt(int64(a[i])))
	}
	return out
}

func of(x *big.Int) []uint32 {
	var out []uint32
	for y := new(big.Int).Set(x); y.Sign() > 0; y.Rsh(y, 32) {
		out = append(out, uint32(new(big.Int).And(y, big.NewInt(0xffffffff)).Uint64()))
	}
	return out
}

func TestGcd(t *testing.T) {
	r := rand.New(rand.NewSource(1))
	draw := func(bits int) *big.Int {
		return new(big.Int).Rand(r, new(big.Int).Lsh(big.NewInt(1), uint(r.Intn(bits))))
	}
	for i := range 8000 {
		size := 300
		if i%50 == 0 {
			size = 9000
		}
		a, b, g := draw(size), draw(size), draw(size)
		a.Mul(a, g)
		b.Mul(b, g)
		want := new(big.Int).GCD(nil, nil, a, b)
		if got := toBig(Gcd(of(a), of(b))); got.Cmp(want) != 0 {
			t.Fatalf("gcd %v %v: %v, want %v", a, b, got, want)
		}
	}
}

func TestNumbersWithFlatTops(t *testing.T) {
	for i := uint(60); i < 300; i += 7 {
		for j := uint(1); j < i; j += 5 {
			a := new(big.Int).Lsh(big.NewInt(1), i)
			b := new(big.Int).Sub(a, new(big.Int).Lsh(big.NewInt(1), j))
			for d := int64(-2); d <= 2; d++ {
				c := new(big.Int).Add(b, big.NewInt(d))
				want := new(big.Int).GCD(nil, nil, a, c)
				if got := toBig(Gcd(of(a), of(c))); got.Cmp(want) != 0 {
					t.Fatal(i, j, d, got, want)
				}
			}
		}
	}
}
