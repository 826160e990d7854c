package mono

import (
	"math"
	"math/rand"
	"slices"
	"testing"

	"algebrist/api"
)

func draw(r *rand.Rand, n, top int) []int {
	e := make([]int, n)
	for i := range e {
		e[i] = r.Intn(top + 1)
	}
	return e
}

func orders(n int) []api.Order {
	out := []api.Order{{Kind: api.Lex}, {Kind: api.GrLex}, {Kind: api.GrevLex}}
	for cut := range n + 1 {
		out = append(out, api.Order{Kind: api.Block, Cut: cut})
	}
	return out
}

// P24.1
func TestRight(t *testing.T) {
	for i, x := range []struct {
		n    int
		e    []int
		want bool
	}{{0, nil, true}, {2, []int{0, 60}, true}, {2, []int{0, 61}, false}, {2, []int{-1, 0}, false}, {2, []int{1}, false}, {7, make([]int, 7), false}, {6, make([]int, 6), true}, {-1, nil, false}, {0, []int{}, true}} {
		if Right(x.n, x.e) != x.want {
			t.Error(i)
		}
	}
	for i, x := range []struct {
		n    int
		o    api.Order
		want bool
	}{{0, api.Order{}, true}, {6, api.Order{}, true}, {6, api.Order{Kind: 3, Cut: 6}, true}, {3, api.Order{Kind: 3, Cut: 0}, true}, {0, api.Order{Kind: 3}, true}, {3, api.Order{Kind: 2}, true}, {3, api.Order{Kind: 1, Cut: 1}, false}, {3, api.Order{Kind: 3, Cut: 3}, true}, {3, api.Order{Kind: 3, Cut: 4}, false}, {3, api.Order{Kind: 3, Cut: -1}, false}, {3, api.Order{Kind: 4}, false}, {3, api.Order{Kind: -1}, false}, {7, api.Order{}, false}, {-1, api.Order{}, false}, {math.MaxInt, api.Order{Kind: math.MinInt}, false}} {
		if Order(x.n, x.o) != x.want {
			t.Error(i)
		}
	}
}

// P24.2
func TestParts(t *testing.T) {
	r := rand.New(rand.NewSource(1))
	for range 500 {
		n := r.Intn(7)
		a, b := draw(r, n, 40), draw(r, n, 40)
		p, e := Mul(a, b)
		over := false
		for i := range a {
			over = over || a[i]+b[i] > 60
		}
		if over != (e == api.ErrRange) || over && len(p) != 0 {
			t.Fatal(a, b, e)
		}
		if !over {
			if q, ok := Div(p, b); !ok || !slices.Equal(q, a) || !Divides(a, p) {
				t.Fatal(a, b)
			}
		}
		l, g := Lcm(a, b), Gcd(a, b)
		if Deg(l)+Deg(g) != Deg(a)+Deg(b) || !Divides(a, l) || !Divides(g, b) {
			t.Fatal(a, b)
		}
		if q, ok := Div(a, b); ok != Divides(b, a) || !ok && len(q) != 0 {
			t.Fatal(a, b)
		}
	}
	if p, e := Mul([]int{30}, []int{30}); e != api.OK || p[0] != 60 {
		t.Error(p)
	}
	if Divides([]int{1, 2}, []int{2, 1}) || Divides([]int{3}, []int{2}) || !Divides(nil, nil) {
		t.Error("divides")
	}
	if q, ok := Div([]int{2, 1}, []int{1, 2}); ok || len(q) != 0 {
		t.Error(q)
	}
	if _, e := Mul([]int{31}, []int{30}); e != api.ErrRange {
		t.Error(e)
	}
}

// P24.3, P24.4
func TestOrders(t *testing.T) {
	r := rand.New(rand.NewSource(2))
	for range 500 {
		n := r.Intn(5)
		a, b, c := draw(r, n, 3), draw(r, n, 3), draw(r, n, 3)
		for _, o := range orders(n) {
			x := Cmp(o, a, b)
			if x != -Cmp(o, b, a) || (x == 0) != slices.Equal(a, b) {
				t.Fatal(o, a, b)
			}
			if x >= 0 && Cmp(o, b, c) >= 0 && Cmp(o, a, c) < 0 {
				t.Fatal("by threes", o, a, b, c)
			}
			if Cmp(o, a, make([]int, n)) < 0 {
				t.Fatal("1 is the least", o, a)
			}
			p, _ := Mul(a, c)
			q, _ := Mul(b, c)
			if Cmp(o, p, q) != x {
				t.Fatal("products", o, a, b, c)
			}
			if o.Kind == api.Block && Deg(a[:o.Cut]) > 0 && Deg(b[:o.Cut]) == 0 && x != 1 {
				t.Fatal("block", o, a, b)
			}
		}
	}
	xz, yy := []int{1, 0, 1}, []int{0, 2, 0}
	for i, x := range []struct {
		o    api.Order
		want int
	}{{api.Order{Kind: api.Lex}, 1}, {api.Order{Kind: api.GrLex}, 1}, {api.Order{Kind: api.GrevLex}, -1}, {api.Order{Kind: api.Block, Cut: 1}, 1}, {api.Order{Kind: api.Block, Cut: 2}, -1}, {api.Order{Kind: api.Block, Cut: 0}, -1}} {
		if Cmp(x.o, xz, yy) != x.want {
			t.Error(i)
		}
	}
	if Cmp(api.Order{Kind: api.Lex}, []int{1, 0}, []int{0, 9}) != 1 || Cmp(api.Order{Kind: api.GrLex}, []int{1, 0}, []int{0, 9}) != -1 {
		t.Error("lex, grlex")
	}
}
