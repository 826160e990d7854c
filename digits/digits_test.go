package digits

import (
	"math/big"
	"math/rand"
	"strings"
	"testing"

	"algebrist/api"
	"algebrist/whole"
)

func of(x *big.Int) api.Int {
	out := api.Int{Neg: x.Sign() < 0}
	for y := new(big.Int).Abs(x); y.Sign() > 0; y.Rsh(y, 32) {
		out.Mag = append(out.Mag, uint32(new(big.Int).And(y, big.NewInt(0xffffffff)).Uint64()))
	}
	return out
}

func draw(r *rand.Rand, bits int) *big.Int {
	x := new(big.Int).Rand(r, new(big.Int).Lsh(big.NewInt(1), uint(1+r.Intn(bits))))
	if r.Intn(2) == 0 {
		x.Neg(x)
	}
	return x
}

// P3.1, P3.2, P3.3
func TestAgainstBig(t *testing.T) {
	r := rand.New(rand.NewSource(1))
	for i := range 3000 {
		size := 300
		if i%100 == 0 {
			size = 30000
		}
		x := draw(r, size)
		b := 2 + r.Intn(35)
		s, e := Base(of(x), b)
		if e != api.OK || s != x.Text(b) {
			t.Fatal(b, x, s)
		}
		if Text(of(x)) != x.String() {
			t.Fatal(x)
		}
		back, e := FromBase(s, b)
		if long := len(strings.TrimPrefix(s, "-")) > 1000; long != (e == api.ErrRange) {
			t.Fatal(e, len(s))
		} else if !long && !whole.Same(back, of(x)) {
			t.Fatal(b, s)
		}
	}
	for _, b := range []int{2, 10, 16, 36} {
		for n := range 300 {
			for d := -1; d <= 1; d++ {
				x := new(big.Int).Exp(big.NewInt(int64(b)), big.NewInt(int64(n)), nil)
				x.Add(x, big.NewInt(int64(d)))
				if s, _ := Base(of(x), b); s != x.Text(b) {
					t.Fatal(b, n, d)
				}
			}
		}
	}
}

func TestNone(t *testing.T) {
	for _, s := range []string{"", "-", "-0", "+1", "01", "-01", "1 ", " 1", "1-", "--1", "A", "a", "1a", "00", "1_0", "é", "\x00", "0x1"} {
		if a, e := Parse(s); e != api.ErrSyntax || len(a.Mag) != 0 || a.Neg {
			t.Error(s, a, e)
		}
	}
	for _, x := range []struct {
		s string
		b int
		e api.Errno
	}{{"1", 1, api.ErrArg}, {"x", 37, api.ErrArg}, {"", 0, api.ErrArg}, {"2", 2, api.ErrSyntax}, {"z", 35, api.ErrSyntax}, {"z", 36, api.OK}, {"Z", 36, api.ErrSyntax}, {"-rs", 36, api.OK}} {
		if a, e := FromBase(x.s, x.b); e != x.e || e != api.OK && len(a.Mag) != 0 {
			t.Error(x, e)
		}
	}
	for _, b := range []int{1, 37, -5} {
		if s, e := Base(whole.Of(5), b); e != api.ErrArg || s != "" {
			t.Error(b)
		}
	}
	for _, x := range []struct {
		s string
		e api.Errno
	}{{strings.Repeat("9", 1000), api.OK}, {"-" + strings.Repeat("9", 1000), api.OK}, {strings.Repeat("9", 1001), api.ErrRange}, {"-" + strings.Repeat("9", 1001), api.ErrRange}, {strings.Repeat("9", 1001) + "x", api.ErrSyntax}, {"0" + strings.Repeat("9", 1001), api.ErrSyntax}} {
		if _, e := Parse(x.s); e != x.e {
			t.Error(len(x.s), e)
		}
	}
}

func TestExamples(t *testing.T) {
	if Text(whole.Of(-1000)) != "-1000" || Text(whole.Of(0)) != "0" {
		t.Error("text")
	}
	if s, e := Base(whole.Of(-1000), 36); s != "-rs" || e != api.OK {
		t.Error(s)
	}
}

// P3.3
func TestOrder(t *testing.T) {
	r := rand.New(rand.NewSource(3))
	for range 1000 {
		x, y := draw(r, 100), draw(r, 100)
		x.Abs(x)
		y.Abs(y)
		s, u := Text(of(x)), Text(of(y))
		want := strings.Compare(s, u)
		if len(s) != len(u) {
			want = len(s) - len(u)
		}
		if whole.Cmp(of(x), of(y)) > 0 != (want > 0) {
			t.Fatal(s, u)
		}
	}
}
