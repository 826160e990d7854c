package matrix

import (
	"math"
	"math/rand"
	"testing"

	"algebrist/api"
	"algebrist/frac"
	"algebrist/qpoly"
	"algebrist/whole"
)

func rat(n, d int) api.Rat {
	a, _ := frac.Of(whole.Of(n), whole.Of(d))
	return a
}

func mat(c int, l ...int) api.Mat {
	return build(len(l)/c, c, func(i, j int) api.Rat { return number(l[i*c+j]) })
}

func random(r *rand.Rand, rows, cols int) api.Mat {
	sparse := r.Intn(3)
	return build(rows, cols, func(i, j int) api.Rat {
		if r.Intn(3) < sparse {
			return number(0)
		}
		return rat(r.Intn(13)-6, 1+r.Intn(3))
	})
}

func slowDet(a api.Mat) api.Rat {
	if a.R == 0 {
		return number(1)
	}
	sum := number(0)
	for i := range a.R {
		rest := build(a.R-1, a.R-1, func(p, q int) api.Rat {
			if p >= i {
				p++
			}
			return a.A[p*a.C+q+1]
		})
		x := frac.Mul(a.A[i*a.C], slowDet(rest))
		if i%2 == 1 {
			x = frac.Neg(x)
		}
		sum = frac.Add(sum, x)
	}
	return sum
}

// slowEchelon is Gauss' way with rationals.
func slowEchelon(a api.Mat) (api.Mat, int) {
	at := func(i, j int) *api.Rat { return &a.A[i*a.C+j] }
	a = api.Mat{R: a.R, C: a.C, A: append([]api.Rat(nil), a.A...)}
	row := 0
	for col := 0; col < a.C && row < a.R; col++ {
		k := row
		for k < a.R && frac.Sign(*at(k, col)) == 0 {
			k++
		}
		if k == a.R {
			continue
		}
		p := *at(k, col)
		for j := range a.C {
			*at(k, j), *at(row, j) = *at(row, j), *at(k, j)
			*at(row, j), _ = frac.Div(*at(row, j), p)
		}
		for i := range a.R {
			f := *at(i, col)
			for j := range a.C {
				if i != row {
					*at(i, j) = frac.Sub(*at(i, j), frac.Mul(f, *at(row, j)))
				}
			}
		}
		row++
	}
	return a, row
}

// P19.1
func TestKept(t *testing.T) {
	for i, x := range []struct {
		a    api.Mat
		want bool
	}{{api.Mat{}, true}, {api.Mat{R: 0, C: 40}, true}, {api.Mat{R: 41, C: 0}, false}, {api.Mat{R: -1, C: 0}, false}, {api.Mat{R: 1, C: 1}, false}, {api.Mat{R: 1, C: 1, A: []api.Rat{{}}}, false}, {mat(1, 5), true}, {api.Mat{R: math.MaxInt, C: math.MaxInt}, false}, {api.Mat{R: -1, C: -1, A: []api.Rat{number(1)}}, false}} {
		if Right(x.a) != x.want {
			t.Error(i)
		}
	}
	if Same(mat(1, 1, 2), mat(2, 1, 2)) || !Same(mat(2, 1, 2), mat(2, 1, 2)) || Same(mat(2, 1, 2), mat(2, 1, 3)) {
		t.Error("same")
	}
	for _, x := range [][2]int{{-1, 2}, {2, 41}, {math.MinInt, 0}, {math.MaxInt, math.MaxInt}} {
		if a, e := New(x[0], x[1]); e != api.ErrRange || !Same(a, api.Mat{}) {
			t.Error(x)
		}
		if a, e := One(max(x[0], x[1], 41)); e != api.ErrRange || !Same(a, api.Mat{}) {
			t.Error(x)
		}
	}
	if a, e := New(2, 40); e != api.OK || !Right(a) || a.R != 2 || a.C != 40 || !isZero(a.A) {
		t.Error("new")
	}
	if a, e := One(2); e != api.OK || !Same(a, mat(2, 1, 0, 0, 1)) {
		t.Error("one")
	}
	a := mat(3, 1, 2, 3, 4, 5, 6)
	if x, e := At(a, 1, 2); e != api.OK || !frac.Same(x, number(6)) {
		t.Error(x)
	}
	if x, e := At(a, 0, 0); e != api.OK || !frac.Same(x, number(1)) {
		t.Error(x)
	}
	if b, e := Set(a, 0, 0, number(9)); e != api.OK || !Same(b, mat(3, 9, 2, 3, 4, 5, 6)) {
		t.Error(b)
	}
	b, e := Set(a, 1, 0, rat(1, 2))
	if x, _ := At(b, 1, 0); e != api.OK || !frac.Same(x, rat(1, 2)) || !Same(a, mat(3, 1, 2, 3, 4, 5, 6)) {
		t.Error("set")
	}
	for _, p := range [][2]int{{2, 0}, {0, 3}, {-1, 0}, {0, -1}, {math.MaxInt, 0}} {
		if x, e := At(a, p[0], p[1]); e != api.ErrRange || !frac.Same(x, api.Rat{}) {
			t.Error(p)
		}
		if x, e := Set(a, p[0], p[1], number(1)); e != api.ErrRange || !Same(x, api.Mat{}) {
			t.Error(p)
		}
	}
}

// P19.2, P19.4
func TestSquare(t *testing.T) {
	r := rand.New(rand.NewSource(1))
	for range 300 {
		n := r.Intn(5)
		a, b := random(r, n, n), random(r, n, n)
		d, e := Det(a)
		if e != api.OK || !frac.Same(d, slowDet(a)) {
			t.Fatal("det", a, d)
		}
		ab, _ := Mul(a, b)
		db, _ := Det(b)
		dab, _ := Det(ab)
		if !frac.Same(dab, frac.Mul(d, db)) {
			t.Fatal("determinants multiply")
		}
		one, _ := One(n)
		inv, e := Inverse(a)
		if frac.Sign(d) == 0 {
			if e != api.ErrNone || !Same(inv, api.Mat{}) {
				t.Fatal(e)
			}
		} else if p, _ := Mul(a, inv); e != api.OK || !Same(p, one) {
			t.Fatal("inverse", a)
		}
		c, e := CharPoly(a)
		if e != api.OK || !qpoly.Right(c) || qpoly.Deg(c) != n {
			t.Fatal("charpoly", c)
		}
		sum, _ := New(n, n)
		for i := n; i >= 0; i-- {
			sum, _ = Mul(sum, a)
			scaled := build(n, n, func(p, q int) api.Rat { return frac.Mul(c[i], unit(p, q)) })
			sum, _ = Add(sum, scaled)
		}
		if !isZero(sum.A) {
			t.Fatal("a matrix put into its own")
		}
		x := rat(r.Intn(9)-4, 1+r.Intn(2))
		less := build(n, n, func(p, q int) api.Rat { return frac.Sub(frac.Mul(x, unit(p, q)), a.A[p*n+q]) })
		if want := slowDet(less); !frac.Same(qpoly.Value(c, x), want) {
			t.Fatal("charpoly")
		}
	}
	for _, e := range []api.Errno{second(Det(mat(2, 1, 2))), second(Inverse(mat(2, 1, 2))), second(CharPoly(mat(2, 1, 2)))} {
		if e != api.ErrArg {
			t.Error(e)
		}
	}
	for _, b := range []api.Mat{mat(1, 1, 2), mat(2, 1, 2, 3, 4), mat(1, 1), mat(3, 1, 2, 3)} {
		if c, e := Add(mat(2, 1, 2), b); e != api.ErrArg || !Same(c, api.Mat{}) {
			t.Error(e)
		}
	}
	if c, e := Add(mat(2, 1, 2), mat(2, 3, -2)); e != api.OK || !Same(c, mat(2, 4, 0)) {
		t.Error(c, e)
	}
	if _, e := Mul(mat(2, 1, 2), mat(2, 1, 2)); e != api.ErrArg {
		t.Error(e)
	}
	if p, e := Mul(api.Mat{R: 2, C: 0}, api.Mat{R: 0, C: 3}); e != api.OK || p.R != 2 || p.C != 3 || !isZero(p.A) || !Right(p) {
		t.Error(p)
	}
}

func second[T any](_ T, e api.Errno) api.Errno { return e }

func TestReduced(t *testing.T) {
	r := rand.New(rand.NewSource(2))
	for range 300 {
		a := random(r, r.Intn(6), r.Intn(6))
		want, rank := slowEchelon(a)
		if got := Echelon(a); !Right(got) || !Same(got, want) {
			t.Fatal("echelon", a, got, want)
		}
		if Rank(a) != rank || Rank(Trans(a)) != rank {
			t.Fatal("rank", a)
		}
		if !Same(Trans(Trans(a)), a) {
			t.Fatal("trans")
		}
	}
}

func TestInertia(t *testing.T) {
	r := rand.New(rand.NewSource(3))
	for range 300 {
		n := r.Intn(6)
		d := make([]int, n)
		var want [3]int
		for i := range d {
			d[i] = r.Intn(5) - 2
			want[map[bool]int{true: 0, false: 1}[d[i] > 0]]++
			if d[i] == 0 {
				want[1]--
				want[2]++
			}
		}
		p := random(r, n, n)
		if x, _ := Det(p); frac.Sign(x) == 0 {
			continue
		}
		diagonal := build(n, n, func(i, j int) api.Rat { return frac.Mul(number(d[i]), unit(i, j)) })
		a, _ := Mul(p, diagonal)
		a, _ = Mul(a, Trans(p))
		pos, neg, zero, e := Inertia(a)
		if e != api.OK || [3]int{pos, neg, zero} != want {
			t.Fatal(a, pos, neg, zero, want)
		}
	}
	for i, x := range []struct {
		a    api.Mat
		want [3]int
		e    api.Errno
	}{{mat(2, 0, 1, 1, 0), [3]int{1, 1, 0}, 0}, {mat(2, 0, 1, 2, 0), [3]int{}, api.ErrArg}, {mat(2, 1, 2), [3]int{}, api.ErrArg}, {mat(3, 0, 0, 0, 0, 0, 5, 0, 5, 0), [3]int{1, 1, 1}, 0}, {api.Mat{}, [3]int{}, 0}, {mat(1, -3), [3]int{0, 1, 0}, 0}} {
		if p, n, z, e := Inertia(x.a); e != x.e || [3]int{p, n, z} != x.want {
			t.Error(i, p, n, z, e)
		}
	}
}

// P19.3, P19.4
func TestSolve(t *testing.T) {
	r := rand.New(rand.NewSource(4))
	found := [2]int{}
	for range 500 {
		a := random(r, r.Intn(5), r.Intn(5))
		b := random(r, a.R, 1).A
		w, some, e := Solve(a, b)
		if e != api.OK || !Holds(a, b, w, some) || Holds(a, b, w, !some) {
			t.Fatal(a, b, w, some)
		}
		if !some {
			found[0]++
			continue
		}
		found[1]++
		reduced, _ := slowEchelon(a)
		pivot := map[int]bool{}
		for i := range a.R {
			for j := range a.C {
				if frac.Sign(reduced.A[i*a.C+j]) != 0 {
					pivot[j] = true
					break
				}
			}
		}
		k := 0
		for j := range a.C {
			if pivot[j] {
				continue
			}
			if frac.Sign(w.X[j]) != 0 || !frac.Same(w.K[k][j], number(1)) {
				t.Fatal("free columns", a, w)
			}
			for q := range w.K {
				if q != k && frac.Sign(w.K[q][j]) != 0 {
					t.Fatal("free columns", a, w)
				}
			}
			k++
		}
	}
	if found[0] == 0 || found[1] == 0 {
		t.Error(found)
	}
	if w, some, e := Solve(mat(2, 1, 2), nil); e != api.ErrArg || some || len(w.X)+len(w.K)+len(w.Y) != 0 {
		t.Error(e)
	}
	w, some, _ := Solve(mat(2, 1, 1, 1, -1), []api.Rat{number(3), number(1)})
	if !some || len(w.K) != 0 || !frac.Same(w.X[0], number(2)) || !frac.Same(w.X[1], number(1)) {
		t.Error(w)
	}
}

func TestHolds(t *testing.T) {
	a, b := mat(2, 1, 1, 2, 2), []api.Rat{number(1), number(2)}
	x, k := []api.Rat{number(1), number(0)}, [][]api.Rat{{number(-1), number(1)}}
	for i, y := range []struct {
		a    api.Mat
		b    []api.Rat
		w    api.Linear
		some bool
		want bool
	}{
		{a, b, api.Linear{X: x, K: k}, true, true},
		{a, b, api.Linear{X: []api.Rat{number(3), number(-2)}, K: [][]api.Rat{{number(2), number(-2)}}}, true, true},
		{a, b, api.Linear{X: x}, true, false},
		{a, b, api.Linear{X: x, K: [][]api.Rat{{number(0), number(0)}}}, true, false},
		{a, b, api.Linear{X: x, K: [][]api.Rat{k[0], k[0]}}, true, false},
		{a, b, api.Linear{X: x, K: [][]api.Rat{{number(-1)}}}, true, false},
		{a, b, api.Linear{X: x[:1], K: k}, true, false},
		{a, b, api.Linear{X: []api.Rat{number(1), number(1)}, K: k}, true, false},
		{a, b, api.Linear{X: x, K: k, Y: x}, true, false},
		{a, b[:1], api.Linear{X: x, K: k}, true, false},
		{a, []api.Rat{number(1), {}}, api.Linear{X: x, K: k}, true, false},
		{a, b, api.Linear{X: []api.Rat{number(1), {}}, K: k}, true, false},
		{a, b, api.Linear{X: x, K: [][]api.Rat{{number(-1), {}}}}, true, false},
		{api.Mat{R: 2, C: 2, A: a.A[:3]}, b, api.Linear{X: x, K: k}, true, false},
		{a, b, api.Linear{Y: []api.Rat{number(-2), number(1)}}, false, false},
		{a, []api.Rat{number(1), number(3)}, api.Linear{Y: []api.Rat{number(-2), number(1)}}, false, true},
		{a, []api.Rat{number(1), number(4)}, api.Linear{Y: []api.Rat{number(-2), number(1)}}, false, false},
		{a, []api.Rat{number(1), number(3)}, api.Linear{Y: []api.Rat{number(-2), number(1)}, X: x}, false, false},
		{a, []api.Rat{number(1), number(3)}, api.Linear{Y: []api.Rat{number(-2), number(1)}, K: k}, false, false},
		{a, []api.Rat{number(1), number(3)}, api.Linear{Y: []api.Rat{number(1)}}, false, false},
		{api.Mat{R: 0, C: 1}, nil, api.Linear{X: []api.Rat{number(7)}, K: [][]api.Rat{{number(5)}}}, true, true},
	} {
		if Holds(y.a, y.b, y.w, y.some) != y.want {
			t.Error(i)
		}
	}
}

func TestGreat(t *testing.T) {
	r := rand.New(rand.NewSource(5))
	a := build(40, 40, func(i, j int) api.Rat { return rat(r.Intn(199)-99, 1+r.Intn(5)) })
	inv, e := Inverse(a)
	one, _ := One(40)
	if p, _ := Mul(inv, a); e != api.OK || !Same(p, one) {
		t.Error(e)
	}
	c, _ := CharPoly(a)
	if d, _ := Det(a); !frac.Same(qpoly.Value(c, number(0)), d) {
		t.Error("det")
	}
}
