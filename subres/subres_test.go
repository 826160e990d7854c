package subres

import (
	"math/rand"
	"testing"

	"algebrist/api"
	"algebrist/whole"
	"algebrist/zpoly"
)

func poly(l ...int) api.ZPoly {
	out := make(api.ZPoly, len(l))
	for i, n := range l {
		out[i] = whole.Of(n)
	}
	return zpoly.Add(out, nil)
}

func draw(r *rand.Rand, n int) api.ZPoly {
	out := make(api.ZPoly, r.Intn(n+1))
	for i := range out {
		out[i] = whole.Of(r.Intn(19) - 9)
		if r.Intn(3) == 0 {
			out[i] = whole.Of(0)
		}
	}
	return zpoly.Add(out, nil)
}

// det is a determinant by its first column.
func det(rows [][]api.Int) api.Int {
	if len(rows) == 0 {
		return whole.Of(1)
	}
	var sum api.Int
	for i, r := range rows {
		if whole.Sign(r[0]) == 0 {
			continue
		}
		var rest [][]api.Int
		for j, q := range rows {
			if j != i {
				rest = append(rest, q[1:])
			}
		}
		x := whole.Mul(r[0], det(rest))
		if i%2 == 1 {
			x = whole.Neg(x)
		}
		sum = whole.Add(sum, x)
	}
	return sum
}

func at(f api.ZPoly, i int) api.Int {
	if i < 0 || i >= len(f) {
		return api.Int{}
	}
	return f[i]
}

// sub is a subresultant by its definition.
func sub(f, g api.ZPoly, j int) api.ZPoly {
	m, n := zpoly.Deg(f), zpoly.Deg(g)
	out := make(api.ZPoly, j+1)
	for i := range out {
		var rows [][]api.Int
		row := func(h api.ZPoly, up int) {
			var r []api.Int
			for c := m + n - j - 1; c > j; c-- {
				r = append(r, at(h, c-up))
			}
			rows = append(rows, append(r, at(h, i-up)))
		}
		for up := n - j - 1; up >= 0; up-- {
			row(f, up)
		}
		for up := m - j - 1; up >= 0; up-- {
			row(g, up)
		}
		if j == 0 {
			for k := range rows {
				rows[k] = rows[k][:m+n]
			}
		}
		out[i] = det(rows)
	}
	return zpoly.Add(out, nil)
}

// P12.1
func TestChain(t *testing.T) {
	r := rand.New(rand.NewSource(1))
	for range 500 {
		f, g := draw(r, 6), draw(r, 6)
		if r.Intn(3) == 0 {
			h := draw(r, 3)
			f, g = zpoly.Mul(f, h), zpoly.Mul(g, h)
		}
		m, n := zpoly.Deg(f), zpoly.Deg(g)
		if m+n > 9 {
			continue
		}
		l := Chain(f, g)
		if m < 1 || n < 1 {
			if len(l) != 0 {
				t.Fatal(f, g, l)
			}
			continue
		}
		if len(l) != min(m, n) {
			t.Fatal(len(l), m, n)
		}
		for j, s := range l {
			if !zpoly.Right(s) || !zpoly.Same(s, sub(f, g, j)) {
				t.Fatal(f, g, j, s, sub(f, g, j))
			}
		}
		if !whole.Same(Resultant(f, g), det(sylvester(f, g))) {
			t.Fatal("resultant", f, g)
		}
	}
	// Gaps of many degrees.
	for _, x := range [][2]api.ZPoly{{poly(1, 0, 0, 0, 0, 1), poly(2, 1, 0, 0, 3)}, {poly(1, 0, 0, 0, 2), poly(3, 0, 0, 0, 5)}, {poly(1, 2, 0, 0, 0, 0, 1), poly(5, 0, 1)}, {poly(5, 0, 1), poly(1, 2, 0, 0, 0, 0, 1)}, {poly(1, 0, 0, 0, 0, 2), poly(1, 0, 0, 3)}} {
		for j, s := range Chain(x[0], x[1]) {
			if !zpoly.Same(s, sub(x[0], x[1], j)) {
				t.Error(x, j, s)
			}
		}
	}
}

func sylvester(f, g api.ZPoly) [][]api.Int {
	m, n := zpoly.Deg(f), zpoly.Deg(g)
	var rows [][]api.Int
	row := func(h api.ZPoly, up int) {
		var r []api.Int
		for c := m + n - 1; c >= 0; c-- {
			r = append(r, at(h, c-up))
		}
		rows = append(rows, r)
	}
	for up := n - 1; up >= 0; up-- {
		row(f, up)
	}
	for up := m - 1; up >= 0; up-- {
		row(g, up)
	}
	return rows
}

// P12.2
func TestCofactors(t *testing.T) {
	r := rand.New(rand.NewSource(2))
	for range 800 {
		f, g := draw(r, 7), draw(r, 7)
		x := Cofactors(f, g)
		if !Holds(f, g, x) {
			t.Fatal(f, g, x)
		}
		one := zpoly.Const(whole.Of(1))
		if Holds(f, g, api.Res{R: whole.Add(x.R, whole.Of(1)), A: x.A, B: x.B}) {
			t.Fatal("another resultant")
		}
		if len(f) > 0 && Holds(f, g, api.Res{R: x.R, A: zpoly.Add(x.A, one), B: x.B}) {
			t.Fatal("another A")
		}
		if len(f) > 1 && len(g) > 1 && Holds(f, g, api.Res{R: x.R, A: zpoly.Add(x.A, g), B: zpoly.Sub(x.B, f)}) {
			t.Fatal("degrees")
		}
	}
	x := Cofactors(poly(-1, 0, 1), poly(-2, 1))
	if !whole.Same(x.R, whole.Of(3)) || !zpoly.Same(x.A, poly(1)) || !zpoly.Same(x.B, poly(-2, -1)) {
		t.Error(x)
	}
	for i, y := range []struct {
		f, g api.ZPoly
		x    api.Res
		want bool
	}{
		{poly(2), poly(3), api.Res{R: whole.Of(1)}, true},
		{poly(2), poly(3), api.Res{R: whole.Of(1), A: poly(-1), B: poly(1)}, false},
		{nil, nil, api.Res{}, true}, {nil, poly(3), api.Res{}, true}, {nil, poly(3), api.Res{R: whole.Of(1)}, false}, {nil, nil, api.Res{A: poly(1)}, false},
		{nil, poly(1, 1), api.Res{A: poly(5)}, true}, {nil, poly(1, 1), api.Res{B: poly(5)}, false},
		{poly(1, 0), poly(1, 1), api.Res{R: whole.Of(1), A: poly(1)}, true},
		{api.ZPoly{whole.Of(1), whole.Of(0)}, poly(1, 1), api.Res{R: whole.Of(1), A: poly(1)}, false},
		{poly(1, 1), poly(1, 1), api.Res{R: api.Int{Neg: true}}, false},
		{poly(1, 1), poly(1, 1), api.Res{}, true},
	} {
		if Holds(y.f, y.g, y.x) != y.want {
			t.Error(i)
		}
	}
}

// P12.3
func TestDiscriminant(t *testing.T) {
	for b := -5; b <= 5; b++ {
		for c := -5; c <= 5; c++ {
			if d, e := Discriminant(poly(c, b, 1)); e != api.OK || !whole.Same(d, whole.Of(b*b-4*c)) {
				t.Error(b, c, d)
			}
			if d, e := Discriminant(poly(c, b, 0, 1)); e != api.OK || !whole.Same(d, whole.Of(-4*b*b*b-27*c*c)) {
				t.Error(b, c, d)
			}
			if d, e := Discriminant(poly(c, b, 3)); e != api.OK || !whole.Same(d, whole.Of(b*b-12*c)) {
				t.Error(b, c, d)
			}
		}
	}
	if d, e := Discriminant(poly(4, -7)); e != api.OK || !whole.Same(d, whole.Of(1)) {
		t.Error(d)
	}
	for _, f := range []api.ZPoly{nil, poly(5)} {
		if d, e := Discriminant(f); e != api.ErrArg || len(d.Mag) != 0 {
			t.Error(f)
		}
	}
}

// P12.4
func TestLaws(t *testing.T) {
	r := rand.New(rand.NewSource(3))
	for range 300 {
		f, g, h := draw(r, 6), draw(r, 6), draw(r, 4)
		if len(f) == 0 || len(g) == 0 || len(h) == 0 {
			continue
		}
		m, n := zpoly.Deg(f), zpoly.Deg(g)
		fg, gf := Resultant(f, g), Resultant(g, f)
		if m*n%2 == 1 {
			gf = whole.Neg(gf)
		}
		if !whole.Same(fg, gf) {
			t.Fatal("the other way round")
		}
		if !whole.Same(Resultant(zpoly.Mul(f, h), g), whole.Mul(fg, Resultant(h, g))) {
			t.Fatal("product")
		}
		a := r.Intn(9) - 4
		if !whole.Same(Resultant(poly(-a, 1), g), zpoly.Value(g, whole.Of(a))) {
			t.Fatal("value")
		}
		if zpoly.Deg(h) > 0 {
			for j, s := range Chain(zpoly.Mul(f, h), zpoly.Mul(g, h)) {
				if j < zpoly.Deg(h) && len(s) != 0 {
					t.Fatal("common factor")
				}
			}
		}
	}
}

// Nothing holds of what may not be.
func TestWhatMayNotBe(t *testing.T) {
	f, g := poly(-2, 3, 1), poly(-1, 0, 0, 2)
	x := Cofactors(f, g)
	one := api.Int{Mag: []uint32{1, 0}}
	long := func(h api.ZPoly) api.ZPoly { return append(h[:len(h):len(h)], api.Int{}) }
	wide := func(h api.ZPoly) api.ZPoly {
		out := append(api.ZPoly(nil), h...)
		out[0].Mag = append(append([]uint32(nil), out[0].Mag...), 0)
		return out
	}
	if !Holds(f, g, x) {
		t.Fatal("what holds")
	}
	for i, ok := range []bool{
		Holds(long(f), g, x), Holds(f, long(g), x), Holds(wide(f), g, x), Holds(f, wide(g), x),
		Holds(f, g, api.Res{R: api.Int{Neg: x.R.Neg, Mag: append(append([]uint32(nil), x.R.Mag...), 0)}, A: x.A, B: x.B}),
		Holds(f, g, api.Res{R: x.R, A: wide(x.A), B: x.B}), Holds(f, g, api.Res{R: x.R, A: x.A, B: wide(x.B)}),
		Holds(f, g, api.Res{R: x.R, A: long(x.A), B: x.B}), Holds(f, g, api.Res{R: x.R, A: x.A, B: long(x.B)}),
		Holds(nil, poly(1, 1), api.Res{A: api.ZPoly{one}}), Holds(poly(1, 1), nil, api.Res{B: api.ZPoly{one}}),
	} {
		if ok {
			t.Error(i)
		}
	}
}
