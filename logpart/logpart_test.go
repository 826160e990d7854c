package logpart

import (
	"math/rand"
	"slices"
	"testing"

	"algebrist/api"
	"algebrist/frac"
	"algebrist/qpoly"
	"algebrist/ratfun"
	"algebrist/whole"
)

func rat(n, d int) api.Rat {
	a, _ := frac.Of(whole.Of(n), whole.Of(d))
	return a
}

func poly(l ...int) api.QPoly {
	out := make(api.QPoly, len(l))
	for i, n := range l {
		out[i] = rat(n, 1)
	}
	return qpoly.Add(out, nil)
}

func draw(r *rand.Rand, n int) api.QPoly {
	out := make(api.QPoly, r.Intn(n+1))
	for i := range out {
		out[i] = rat(r.Intn(9)-4, 1+r.Intn(2))
	}
	return qpoly.Add(out, nil)
}

func fun(a, b api.QPoly) api.RatFun { f, _ := ratfun.New(a, b); return f }

// known is a sum of c (log p)' with small whole c, of which many are alike.
func known(r *rand.Rand) api.RatFun {
	f := fun(nil, poly(1))
	for range r.Intn(4) {
		p := draw(r, 4)
		if qpoly.Deg(p) > 0 {
			f = ratfun.Add(f, fun(qpoly.Scale(qpoly.Diff(p), rat(r.Intn(3)-1, 1)), p))
		}
	}
	return f
}

// P32.1, P32.2, P32.3
func TestLogs(t *testing.T) {
	r := rand.New(rand.NewSource(1))
	for i := range 150 {
		h := known(r)
		if i%2 == 0 {
			den := draw(r, 6)
			if qpoly.Deg(den) < 1 {
				continue
			}
			h = fun(draw(r, qpoly.Deg(den)), den)
		}
		l, e := Logs(h)
		if !isProper(h) {
			if e != api.ErrArg || len(l) != 0 {
				t.Fatal(h, e)
			}
			continue
		}
		if e != api.OK || !Holds(h, l) || !byValues(h, l) || !byResidues(h, l) {
			t.Fatal(h, l, e)
		}
		sum, last := 0, 0
		for _, x := range l {
			n := len(x.S) - 1
			sum += n * qpoly.Deg(x.Q)
			if n <= last {
				t.Fatal("by rising numbers", h, l)
			}
			last = n
		}
		if len(h.Num) > 0 && sum != qpoly.Deg(h.Den) || len(h.Num) == 0 && len(l) != 0 {
			t.Fatal("degrees", h, l)
		}
		if len(l) > 0 {
			bad := slices.Clone(l)
			bad[0].S = append([]api.QPoly{qpoly.Add(bad[0].S[0], poly(1))}, bad[0].S[1:]...)
			if Holds(h, bad) || Holds(h, l[1:]) || Holds(h, append(slices.Clone(l), l[0])) {
				t.Fatal("others hold", h)
			}
			// One that is taken away again, by another way of writing.
			more := append(slices.Clone(l), api.Log{Q: poly(-1, 1), S: []api.QPoly{poly(5), poly(1)}}, api.Log{Q: poly(1, 1), S: []api.QPoly{poly(5), poly(1)}})
			if !Holds(h, more) {
				t.Fatal("what stands for 0", h)
			}
		}
	}
}

func TestExamples(t *testing.T) {
	l, _ := Logs(fun(poly(1), poly(-1, 0, 1)))
	if len(l) != 1 || !qpoly.Same(l[0].Q, api.QPoly{rat(-1, 4), rat(0, 1), rat(1, 1)}) || len(l[0].S) != 2 || !qpoly.Same(l[0].S[0], poly(0, -2)) || !qpoly.Same(l[0].S[1], poly(1)) {
		t.Error(l)
	}
	l, _ = Logs(fun(poly(0, 2), poly(1, 0, 1)))
	if len(l) != 1 || !qpoly.Same(l[0].Q, poly(-1, 1)) || len(l[0].S) != 3 || !qpoly.Same(l[0].S[0], poly(1)) || len(l[0].S[1]) != 0 {
		t.Error(l)
	}
	l, _ = Logs(fun(poly(3), poly(-2, 1)))
	if len(l) != 1 || !qpoly.Same(l[0].Q, poly(-3, 1)) || !qpoly.Same(l[0].S[0], poly(-2)) {
		t.Error(l)
	}
	for i, h := range []api.RatFun{fun(poly(0, 1), poly(1, 1)), fun(poly(1), poly(0, 0, 1)), fun(poly(2), poly(1))} {
		if l, e := Logs(h); e != api.ErrArg || len(l) != 0 || Holds(h, l) {
			t.Error(i, e)
		}
	}
	if l, e := Logs(fun(nil, poly(1))); e != api.OK || len(l) != 0 || !Holds(fun(nil, poly(1)), nil) {
		t.Error(e)
	}
}

func TestHolds(t *testing.T) {
	h := fun(poly(1), poly(0, 1))
	one := poly(1)
	good := api.Log{Q: poly(-1, 1), S: []api.QPoly{nil, one}}
	if !Holds(h, []api.Log{good}) {
		t.Error("what holds")
	}
	for i, l := range [][]api.Log{
		nil, {good, good}, {{Q: poly(-2, 2), S: good.S}}, {{Q: poly(1, -2, 1), S: good.S}}, {{Q: poly(0, -1, 1), S: good.S}}, {{Q: poly(-1, 1), S: []api.QPoly{one}}},
		{{Q: poly(-1, 1), S: []api.QPoly{nil, poly(2)}}}, {{Q: poly(-1, 1), S: []api.QPoly{nil, one, nil}}}, {{Q: poly(-1, 1), S: []api.QPoly{poly(0, 1), one}}}, {{Q: poly(-1, 1), S: []api.QPoly{{{}}, one}}},
		{{S: good.S}}, {{Q: poly(-1, 1)}}, {{Q: poly(1, 1), S: good.S}},
	} {
		if Holds(h, l) {
			t.Error(i)
		}
	}
	if Holds(h, []api.Log{{Q: poly(-1, 1), S: []api.QPoly{poly(-1, 1), one}}}) {
		t.Error("not reduced")
	}
	both := ratfun.Add(h, fun(one, poly(-1, 1)))
	other := api.Log{Q: poly(-1, 1), S: []api.QPoly{poly(-1), one}}
	if Holds(both, []api.Log{good, good}) || !Holds(both, []api.Log{good, other}) {
		t.Error("one residue, told apart")
	}
	// What stands at 3 comes and goes.
	up := api.Log{Q: poly(-1, 1), S: []api.QPoly{poly(12), poly(-7), one}}
	down := api.Log{Q: poly(1, 1), S: []api.QPoly{poly(-3), one}}
	if far := fun(one, poly(-4, 1)); !Holds(far, []api.Log{up, down}) || Holds(far, []api.Log{up}) {
		t.Error("what goes away again")
	}
	// 1/2 of the logarithm of x^2, which is no square-free S, stands for 1/x too.
	if !Holds(h, []api.Log{{Q: api.QPoly{rat(-1, 2), rat(1, 1)}, S: []api.QPoly{nil, nil, one}}}) {
		t.Error("a square")
	}
	if Holds(api.RatFun{}, nil) || Holds(fun(poly(1), poly(0, 0, 1)), nil) {
		t.Error("of what functions")
	}
}

func TestGreat(t *testing.T) {
	den := make([]int, 17)
	for i := range den {
		den[i] = (i*i*7+3)%11 - 5
	}
	den[16] = 1
	h := fun(poly(1, 2, 3), poly(den...))
	l, e := Logs(h)
	if e != api.OK || !Holds(h, l) {
		t.Error(e)
	}
}
