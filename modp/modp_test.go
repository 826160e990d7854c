package modp

import (
	"math"
	"math/rand"
	"testing"

	"algebrist/api"
	"algebrist/whole"
)

const great = 1<<31 - 1

// P7.1
func TestField(t *testing.T) {
	for _, p := range []uint32{2, 3, 5, 7, 65537, great} {
		if Field(p) != api.OK {
			t.Error(p)
		}
	}
	for _, p := range []uint32{0, 1, 4, 9, great - 1, 1 << 31, 2147483659, 4294967291, math.MaxUint32} {
		if Field(p) != api.ErrPrime {
			t.Error(p)
		}
	}
}

func TestSmallFields(t *testing.T) {
	for _, p := range []uint32{2, 3, 5, 7, 11, 13, 17, 41, 97} {
		for a := range p {
			square := uint32(math.MaxUint32)
			for b := range p {
				if Add(p, a, b) != (a+b)%p || Mul(p, a, b) != a*b%p || Sub(p, a, b) != (a+p-b)%p {
					t.Fatal(p, a, b)
				}
				if b*b%p == a {
					square = min(square, b)
				}
			}
			if Neg(p, a) != (p-a)%p {
				t.Fatal("neg", p, a)
			}
			r, e := Root(p, a)
			if square == math.MaxUint32 {
				if e != api.ErrNone || r != 0 {
					t.Fatal("root", p, a, r)
				}
			} else if e != api.OK || r != square {
				t.Fatal("root", p, a, r)
			}
			if a == 0 {
				continue
			}
			inv, e := Inv(p, a)
			if e != api.OK || inv >= p || Mul(p, inv, a) != 1 {
				t.Fatal("inv", p, a)
			}
			want, power := uint64(1), a%p
			for power != 1%p {
				power = power * a % p
				want++
			}
			if o, e := Order(p, a); o != want || e != api.OK {
				t.Fatal("order", p, a, o, want)
			}
		}
	}
	if _, e := Inv(7, 0); e != api.ErrZero {
		t.Error("inv of 0")
	}
	if _, e := Order(7, 0); e != api.ErrZero {
		t.Error("order of 0")
	}
	if Pow(7, 0, 0) != 1 || Pow(7, 0, 5) != 0 || Pow(2, 1, math.MaxUint64) != 1 {
		t.Error("pow")
	}
}

func TestFrom(t *testing.T) {
	for _, x := range []struct {
		p    uint32
		n    int
		want uint32
	}{{7, -1, 6}, {7, 14, 0}, {7, -14, 0}, {2, -3, 1}, {great, math.MaxInt, 1}, {great, 0, 0}} {
		if got := From(x.p, whole.Of(x.n)); got != x.want {
			t.Error(x, got)
		}
	}
	a, _ := whole.Pow(whole.Of(-3), 999)
	if From(great, a) != Neg(great, Pow(great, 3, 999)) {
		t.Error("long")
	}
}

// P7.2
func TestLaws(t *testing.T) {
	r := rand.New(rand.NewSource(1))
	for _, p := range []uint32{2, 3, 65537, 2147483629, great} {
		for range 300 {
			a, b, c := r.Uint32()%p, r.Uint32()%p, r.Uint32()%p
			if Mul(p, a, Add(p, b, c)) != Add(p, Mul(p, a, b), Mul(p, a, c)) || Sub(p, Add(p, a, b), b) != a || Mul(p, Mul(p, a, b), c) != Mul(p, a, Mul(p, b, c)) {
				t.Fatal("ring", p)
			}
			if Pow(p, a, uint64(p)) != a {
				t.Fatal("to the p", p)
			}
			s := Mul(p, a, a)
			root, e := Root(p, s)
			if e != api.OK || Mul(p, root, root) != s || root > p-root && root != 0 {
				t.Fatal("root", p, a)
			}
			if a != 0 {
				o, _ := Order(p, a)
				if Pow(p, a, o) != 1 || (uint64(p)-1)%o != 0 {
					t.Fatal("order", p, a)
				}
				inv, _ := Inv(p, a)
				if Mul(p, inv, a) != 1 {
					t.Fatal("inv", p, a)
				}
			}
		}
	}
}
