package mdiv

import (
	"math/rand"
	"testing"

	"algebrist/api"
	"algebrist/frac"
	"algebrist/mono"
	"algebrist/mpoly"
	"algebrist/whole"
)

func rat(n, d int) api.Rat {
	a, _ := frac.Of(whole.Of(n), whole.Of(d))
	return a
}

func draw(r *rand.Rand, n, terms, top int) api.MPoly {
	out := api.MPoly{N: n}
	for range r.Intn(terms + 1) {
		e := make([]int, n)
		for i := range e {
			e[i] = r.Intn(top + 1)
		}
		if c := rat(r.Intn(9)-4, 1+r.Intn(3)); frac.Sign(c) != 0 {
			out = mpoly.Add(out, api.MPoly{N: n, T: []api.Term{{E: e, C: c}}})
		}
	}
	return out
}

// slowly divides word by word as the chapter says.
func slowly(f api.MPoly, l []api.MPoly, o api.Order) (api.Divided, api.Errno) {
	d := api.Divided{Q: make([]api.MPoly, len(l)), R: api.MPoly{N: f.N}}
	for i := range d.Q {
		d.Q[i].N = f.N
	}
	left := f
next:
	for {
		t, some := mpoly.Lead(left, o)
		if !some {
			return d, api.OK
		}
		for i, g := range l {
			lead, _ := mpoly.Lead(g, o)
			if e, ok := mono.Div(t.E, lead.E); ok {
				c, _ := frac.Div(t.C, lead.C)
				q := api.MPoly{N: f.N, T: []api.Term{{E: e, C: c}}}
				p, err := mpoly.Mul(q, g)
				if err != api.OK {
					return api.Divided{}, err
				}
				d.Q[i] = mpoly.Add(d.Q[i], q)
				left = mpoly.Sub(left, p)
				continue next
			}
		}
		q := api.MPoly{N: f.N, T: []api.Term{t}}
		d.R = mpoly.Add(d.R, q)
		left = mpoly.Sub(left, q)
	}
}

func orders(n int) []api.Order {
	return []api.Order{{Kind: api.Lex}, {Kind: api.GrLex}, {Kind: api.GrevLex}, {Kind: api.Block, Cut: n / 2}}
}

func same(a, b api.Divided) bool {
	if len(a.Q) != len(b.Q) || !mpoly.Same(a.R, b.R) {
		return false
	}
	for i := range a.Q {
		if !mpoly.Same(a.Q[i], b.Q[i]) {
			return false
		}
	}
	return true
}

// P26.1, P26.2
func TestDivide(t *testing.T) {
	r := rand.New(rand.NewSource(1))
	for range 500 {
		n := r.Intn(4)
		f := draw(r, n, 8, 5)
		var l []api.MPoly
		for range r.Intn(4) {
			if g := draw(r, n, 4, 3); len(g.T) > 0 {
				l = append(l, g)
			}
		}
		for _, o := range orders(n) {
			d, e := Divide(f, l, o)
			want, we := slowly(f, l, o)
			if e != we || e == api.OK && (!same(d, want) || !Holds(f, l, o, d)) {
				t.Fatal(f, l, o, d, want, e)
			}
			if Reduced(f, l, o) != mpoly.Same(want.R, f) && e == api.OK {
				t.Fatal("reduced", f, l, o)
			}
			if e != api.OK {
				continue
			}
			bad := api.Divided{Q: d.Q, R: mpoly.Add(d.R, mpoly.Const(n, rat(1, 1)))}
			if Holds(f, l, o, bad) {
				t.Fatal("another rest")
			}
			if len(l) > 0 && n > 0 {
				// x g more of the first one, and as much less of the rest: not reduced, or above f.
				more := mpoly.Var(n, 0)
				p, e := mpoly.Mul(more, l[0])
				if e == api.OK {
					q := append([]api.MPoly{mpoly.Add(d.Q[0], more)}, d.Q[1:]...)
					if Holds(f, l, o, api.Divided{Q: q, R: mpoly.Sub(d.R, p)}) {
						t.Fatal("not reduced")
					}
				}
			}
		}
	}
}

func poly(n int, terms ...[]int) api.MPoly {
	out := api.MPoly{N: n}
	for _, x := range terms {
		out = mpoly.Add(out, api.MPoly{N: n, T: []api.Term{{E: x[1:], C: rat(x[0], 1)}}})
	}
	return out
}

func TestEdges(t *testing.T) {
	lex := api.Order{Kind: api.Lex}
	f := poly(2, []int{1, 2, 1}, []int{1, 1, 2}, []int{1, 0, 2})
	l := []api.MPoly{poly(2, []int{1, 1, 1}, []int{-1, 0, 0}), poly(2, []int{1, 0, 2}, []int{-1, 0, 0})}
	d, e := Divide(f, l, lex)
	one := poly(2, []int{1, 0, 0})
	x, y := mpoly.Var(2, 0), mpoly.Var(2, 1)
	if e != api.OK || !mpoly.Same(d.Q[0], mpoly.Add(x, y)) || !mpoly.Same(d.Q[1], one) || !mpoly.Same(d.R, mpoly.Add(mpoly.Add(x, y), one)) {
		t.Error(d)
	}
	if d, e := Divide(f, []api.MPoly{x, {N: 2}}, lex); e != api.ErrZero || len(d.Q)+len(d.R.T)+d.R.N != 0 {
		t.Error(e)
	}
	// x^60 y by x - y^2 passes y^61.
	g := poly(2, []int{1, 60, 1})
	h := poly(2, []int{1, 1, 0}, []int{-1, 0, 2})
	if d, e := Divide(g, []api.MPoly{h}, lex); e != api.ErrRange || len(d.Q) != 0 {
		t.Error(e)
	}
	if d, e := Divide(api.MPoly{N: 2}, l, lex); e != api.OK || len(d.Q) != 2 || len(d.R.T) != 0 || !Holds(api.MPoly{N: 2}, l, lex, d) {
		t.Error(d)
	}
	if d, e := Divide(f, nil, lex); e != api.OK || !mpoly.Same(d.R, f) || !Holds(f, nil, lex, d) {
		t.Error(d)
	}
	if !Reduced(f, []api.MPoly{{N: 2}}, lex) || Reduced(f, []api.MPoly{one}, lex) {
		t.Error("reduced")
	}
	d, _ = Divide(f, l, lex)
	for i, c := range []struct {
		f api.MPoly
		l []api.MPoly
		o api.Order
		d api.Divided
	}{
		{f, l, api.Order{Kind: 4}, d}, {f, l, api.Order{Kind: 0, Cut: 1}, d}, {f, l[:1], lex, d}, {f, []api.MPoly{l[0], {N: 2}}, lex, d},
		{f, []api.MPoly{l[0], mpoly.Widen(l[1], 3)}, lex, d}, {api.MPoly{N: 7}, nil, lex, api.Divided{R: api.MPoly{N: 7}}},
		{f, l, lex, api.Divided{Q: d.Q, R: mpoly.Widen(d.R, 3)}}, {f, l, lex, api.Divided{Q: d.Q[:1], R: d.R}},
		{api.MPoly{N: 2}, []api.MPoly{x, x}, lex, api.Divided{Q: []api.MPoly{one, mpoly.Neg(one)}, R: api.MPoly{N: 2}}},
		{y, []api.MPoly{x, x}, lex, api.Divided{Q: []api.MPoly{one, mpoly.Neg(one)}, R: y}},
		{f, l, lex, api.Divided{Q: []api.MPoly{{N: 2}, {N: 2}}, R: f}},
		{x, []api.MPoly{x, {N: 2}}, lex, api.Divided{Q: []api.MPoly{one, one}, R: api.MPoly{N: 2}}},
		{y, []api.MPoly{g, g}, lex, api.Divided{Q: []api.MPoly{x, mpoly.Neg(x)}, R: y}},
		{x, []api.MPoly{x, y}, lex, api.Divided{Q: []api.MPoly{one, {N: 3}}, R: api.MPoly{N: 2}}},
	} {
		if Holds(c.f, c.l, c.o, c.d) {
			t.Error(i)
		}
	}
}

// P26.3, P26.4
func TestS(t *testing.T) {
	r := rand.New(rand.NewSource(2))
	for range 400 {
		n := 1 + r.Intn(3)
		f, g := draw(r, n, 4, 4), draw(r, n, 4, 4)
		for _, o := range orders(n) {
			s, e := S(f, g, o)
			if len(f.T) == 0 || len(g.T) == 0 {
				if e != api.ErrZero || s.N != n || len(s.T) != 0 {
					t.Fatal(e)
				}
				continue
			}
			a, _ := mpoly.Lead(f, o)
			b, _ := mpoly.Lead(g, o)
			m := mono.Lcm(a.E, b.E)
			if lead, some := mpoly.Lead(s, o); e != api.OK || some && mono.Cmp(o, lead.E, m) >= 0 {
				t.Fatal("below the least common multiple", f, g, o)
			}
			if back, _ := S(g, f, o); !mpoly.Same(mpoly.Neg(back), s) {
				t.Fatal("turned round")
			}
			p, _ := mpoly.Mul(f, g)
			if d, e := Divide(p, []api.MPoly{f}, o); e != api.OK || len(d.R.T) != 0 || !mpoly.Same(d.Q[0], g) {
				t.Fatal("a multiple leaves nothing")
			}
			if d, e := Divide(mpoly.Add(p, mpoly.Const(n, rat(1, 1))), []api.MPoly{f}, o); e == api.OK && mpoly.Deg(f) > 0 && len(d.R.T) == 0 {
				t.Fatal("no multiple leaves something")
			}
		}
	}
	lex := api.Order{Kind: api.Lex}
	f, g := poly(2, []int{1, 1, 0}, []int{1, 0, 60}), poly(2, []int{2, 0, 1})
	if s, e := S(f, g, lex); e != api.ErrRange || s.N != 2 || len(s.T) != 0 {
		t.Error(s, e)
	}
	if s, e := S(poly(2, []int{2, 2, 0}, []int{1, 0, 1}), poly(2, []int{3, 1, 1}), lex); e != api.OK || len(s.T) != 1 || !frac.Same(s.T[0].C, rat(1, 2)) {
		t.Error(s, e)
	}
}
