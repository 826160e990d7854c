package frac

import (
	"math/big"
	"math/rand"
	"strings"
	"testing"

	"algebrist/api"
	"algebrist/whole"
)

func ofInt(x *big.Int) api.Int {
	out := api.Int{Neg: x.Sign() < 0}
	for y := new(big.Int).Abs(x); y.Sign() > 0; y.Rsh(y, 32) {
		out.Mag = append(out.Mag, uint32(new(big.Int).And(y, big.NewInt(0xffffffff)).Uint64()))
	}
	return out
}

func toInt(a api.Int) *big.Int {
	out := new(big.Int)
	for i := len(a.Mag) - 1; i >= 0; i-- {
		out.Lsh(out, 32).Or(out, big.NewInt(int64(a.Mag[i])))
	}
	if a.Neg {
		out.Neg(out)
	}
	return out
}

func of(x *big.Rat) api.Rat { return api.Rat{Num: ofInt(x.Num()), Den: ofInt(x.Denom())} }

func toRat(a api.Rat) *big.Rat { return new(big.Rat).SetFrac(toInt(a.Num), toInt(a.Den)) }

func draw(r *rand.Rand, bits int) *big.Rat {
	part := func() *big.Int {
		return new(big.Int).Rand(r, new(big.Int).Lsh(big.NewInt(1), uint(r.Intn(bits))))
	}
	n, d := part(), part()
	d.Add(d, big.NewInt(1))
	if r.Intn(2) == 0 {
		n.Neg(n)
	}
	return new(big.Rat).SetFrac(n, d)
}

func same(t *testing.T, what string, got api.Rat, want *big.Rat) {
	t.Helper()
	if !Right(got) || toRat(got).Cmp(want) != 0 {
		t.Fatalf("%s: got %v, want %v", what, got, want)
	}
}

func rat(n, d int) api.Rat {
	a, _ := Of(whole.Of(n), whole.Of(d))
	return a
}

// P6.1, P6.2, P6.3
func TestAgainstBig(t *testing.T) {
	r := rand.New(rand.NewSource(1))
	for i := range 5000 {
		size := 12
		if i%3 == 0 {
			size = 200
		}
		x, y := draw(r, size), draw(r, size)
		a, b := of(x), of(y)
		same(t, "add", Add(a, b), new(big.Rat).Add(x, y))
		same(t, "sub", Sub(a, b), new(big.Rat).Sub(x, y))
		same(t, "mul", Mul(a, b), new(big.Rat).Mul(x, y))
		same(t, "neg", Neg(a), new(big.Rat).Neg(x))
		same(t, "abs", Abs(a), new(big.Rat).Abs(x))
		if Cmp(a, b) != x.Cmp(y) || Sign(a) != x.Sign() {
			t.Fatal("cmp", x, y)
		}
		if y.Sign() != 0 {
			q, e := Div(a, b)
			if e != api.OK {
				t.Fatal(e)
			}
			same(t, "div", q, new(big.Rat).Quo(x, y))
			of2, e := Of(whole.Mul(a.Num, b.Num), whole.Mul(b.Num, whole.Neg(a.Den)))
			if e != api.OK {
				t.Fatal(e)
			}
			same(t, "of", of2, new(big.Rat).Neg(x))
		}
		floor := new(big.Int)
		floor.DivMod(x.Num(), x.Denom(), new(big.Int))
		ceil := new(big.Int).Set(floor)
		if !x.IsInt() {
			ceil.Add(ceil, big.NewInt(1))
		}
		if toInt(Floor(a)).Cmp(floor) != 0 || toInt(Ceil(a)).Cmp(ceil) != 0 {
			t.Fatal("floor, ceil", x)
		}
		n := r.Intn(11) - 5
		p, e := Pow(a, n)
		if x.Sign() == 0 && n < 0 {
			if e != api.ErrZero {
				t.Fatal(e)
			}
			continue
		}
		want := big.NewRat(1, 1)
		for range max(n, -n) {
			want.Mul(want, x)
		}
		if n < 0 {
			want.Inv(want)
		}
		same(t, "pow", p, want)
	}
}

func TestEdges(t *testing.T) {
	for i, x := range []struct {
		a    api.Rat
		want bool
	}{{api.Rat{}, false}, {rat(0, 5), true}, {api.Rat{Num: whole.Of(0), Den: whole.Of(2)}, false}, {api.Rat{Num: whole.Of(2), Den: whole.Of(4)}, false}, {api.Rat{Num: whole.Of(1), Den: whole.Of(-2)}, false}, {api.Rat{Num: whole.Of(1), Den: api.Int{Mag: []uint32{2, 0}}}, false}, {api.Rat{Num: api.Int{Neg: true}, Den: whole.Of(1)}, false}, {rat(-4, 6), true}} {
		if Right(x.a) != x.want {
			t.Error(i)
		}
	}
	if Same(rat(1, 2), rat(-1, 2)) || !Same(rat(2, 4), rat(1, 2)) || !Same(api.Rat{}, api.Rat{}) || Same(api.Rat{}, rat(0, 1)) {
		t.Error("same")
	}
	zero := func(a api.Rat, e, want api.Errno) {
		t.Helper()
		if e != want || !Same(a, api.Rat{}) {
			t.Error(a, e, want)
		}
	}
	a, e := Of(whole.Of(0), whole.Of(0))
	zero(a, e, api.ErrZero)
	a, e = Div(rat(1, 2), rat(0, 1))
	zero(a, e, api.ErrZero)
	a, e = Pow(rat(0, 1), -1001)
	zero(a, e, api.ErrRange)
	a, e = Pow(rat(0, 1), -1)
	zero(a, e, api.ErrZero)
	a, e = Pow(rat(2, 1), 1001)
	zero(a, e, api.ErrRange)
	if a, e = Pow(rat(0, 1), 0); e != api.OK || !Same(a, rat(1, 1)) {
		t.Error("0 to the 0")
	}
	if a, e = Pow(rat(-1, 2), -1000); e != api.OK || whole.Sign(a.Num) < 0 || !isOne(a.Den) {
		t.Error("-1000")
	}
	if a, e = Pow(rat(-1, 1), 1000); e != api.OK || !Same(a, rat(1, 1)) {
		t.Error("1000")
	}
	a, e = Between(rat(1, 2), rat(1, 2))
	zero(a, e, api.ErrArg)
	a, e = Between(rat(1, 2), rat(1, 3))
	zero(a, e, api.ErrArg)
}

// P6.4
func TestText(t *testing.T) {
	r := rand.New(rand.NewSource(2))
	for range 2000 {
		x := draw(r, 150)
		want := x.RatString()
		if got := Text(of(x)); got != want {
			t.Fatal(got, want)
		}
		back, e := Parse(want)
		if e != api.OK || !Same(back, of(x)) {
			t.Fatal(want, e)
		}
		places := r.Intn(12)
		got, e := Decimal(of(x), places)
		// FloatString rounds halves away from 0, but keeps the sign of what becomes 0.
		w := x.FloatString(places)
		if strings.Trim(w, "-0.") == "" {
			w = strings.TrimPrefix(w, "-")
		}
		if e != api.OK || got != w {
			t.Fatal(x, places, got, w)
		}
	}
	long := strings.Repeat("7", 1001)
	for _, x := range []struct {
		s string
		e api.Errno
	}{{"2/4", api.ErrSyntax}, {"1/1", api.ErrSyntax}, {"1/0", api.ErrSyntax}, {"1/-2", api.ErrSyntax}, {"0/2", api.ErrSyntax}, {"0/1", api.ErrSyntax}, {"", api.ErrSyntax}, {"/", api.ErrSyntax}, {"1/", api.ErrSyntax}, {"/2", api.ErrSyntax}, {"1/2/3", api.ErrSyntax}, {"1 /2", api.ErrSyntax}, {"-0", api.ErrSyntax}, {"-1/2", api.OK}, {"1/02", api.ErrSyntax}, {"+1/2", api.ErrSyntax}, {long, api.ErrRange}, {"1/" + long, api.ErrRange}, {long + "/1", api.ErrSyntax}, {long + "/x", api.ErrSyntax}, {"x/" + long, api.ErrSyntax}, {"1/-" + long, api.ErrSyntax}, {long + "/" + long, api.ErrRange}, {long[1:] + "/2", api.OK}} {
		if a, e := Parse(x.s); e != x.e || e != api.OK && !Same(a, api.Rat{}) {
			t.Error(x.s[:min(9, len(x.s))], e)
		}
	}
	for _, x := range []struct {
		a      api.Rat
		places int
		want   string
		e      api.Errno
	}{{rat(-1, 8), 2, "-0.13", 0}, {rat(1, 8), 2, "0.13", 0}, {rat(-1, 1000), 2, "0.00", 0}, {rat(5, 2), 0, "3", 0}, {rat(-5, 2), 0, "-3", 0}, {rat(-1, 3), 0, "0", 0}, {rat(1, 1), 101, "", api.ErrArg}, {rat(1, 1), -1, "", api.ErrArg}, {rat(123, 1), 2, "123.00", 0}, {rat(0, 1), 1, "0.0", 0}, {rat(1, 1), 100, "1." + strings.Repeat("0", 100), 0}} {
		if s, e := Decimal(x.a, x.places); s != x.want || e != x.e {
			t.Error(x, s, e)
		}
	}
}

// P6.5
func TestBetween(t *testing.T) {
	if got, _ := Between(rat(1, 3), rat(1, 2)); !Same(got, rat(2, 5)) {
		t.Error(got)
	}
	r := rand.New(rand.NewSource(3))
	for range 3000 {
		a, b := rat(r.Intn(81)-40, 1+r.Intn(12)), rat(r.Intn(81)-40, 1+r.Intn(12))
		if Cmp(a, b) >= 0 {
			continue
		}
		got, e := Between(a, b)
		want := api.Rat{}
	search:
		for d := 1; ; d++ {
			for n := 0; n <= 41*d; n++ {
				for _, m := range []int{n, -n} {
					if x := rat(m, d); Cmp(a, x) < 0 && Cmp(x, b) < 0 {
						want = x
						break search
					}
				}
			}
		}
		if e != api.OK || !Same(got, want) {
			t.Fatal(Text(a), Text(b), Text(got), Text(want))
		}
	}
}

// P6.6
func TestField(t *testing.T) {
	r := rand.New(rand.NewSource(4))
	for range 500 {
		a, b, c := of(draw(r, 60)), of(draw(r, 60)), of(draw(r, 60))
		if !Same(Mul(a, Add(b, c)), Add(Mul(a, b), Mul(a, c))) || !Same(Sub(Add(a, b), b), a) || !Same(Add(Add(a, b), c), Add(a, Add(b, c))) {
			t.Fatal("ring")
		}
		if Sign(b) != 0 {
			if q, _ := Div(Mul(a, b), b); !Same(q, a) {
				t.Fatal("quotient")
			}
		}
		if Cmp(a, b) != Cmp(Add(a, c), Add(b, c)) {
			t.Fatal("order")
		}
	}
}
