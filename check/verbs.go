package check

import (
	"algebrist/api"
	"algebrist/euclid"
	"algebrist/groebner"
	"algebrist/ideal"
	"algebrist/integral"
	"algebrist/isolate"
	"algebrist/matrix"
	"algebrist/mdiv"
	"algebrist/prime"
	"algebrist/ratfun"
	"algebrist/split"
	"algebrist/sturm"
	"algebrist/zassen"
	"algebrist/zgcd"
)

func (x *taker) gcdint(p api.Paper) func() bool {
	q, w := x.fixed(p.Question, 2), x.fixed(p.Witness, 2)
	a, b := x.num(q[0]), x.num(q[1])
	bezout := api.IntBezout{G: x.num(p.Answer), U: x.num(w[0]), V: x.num(w[1])}
	return func() bool { return euclid.Holds(a, b, bezout) }
}

func (x *taker) prime(p api.Paper) func() bool {
	n := x.candidate(p.Question)
	x.word(p.Answer, "yes")
	steps := each(x, func(t api.Tree) api.PrattStep {
		l := x.fixed(t, 4)
		return api.PrattStep{N: x.word64(l[0]), G: x.word64(l[1]), Q: each(x, x.word64, l[2]), E: each(x, x.small, l[3])}
	}, p.Witness)
	return func() bool { return prime.Holds(n, steps) }
}

func (x *taker) gcd(p api.Paper) func() bool {
	q, w := x.fixed(p.Question, 2), x.fixed(p.Witness, 5)
	f, g := x.zpoly(q[0]), x.zpoly(q[1])
	d, a, b := x.zpoly(p.Answer), x.zpoly(w[0]), x.zpoly(w[1])
	modulus := x.word32(w[2])
	u, v := x.ppoly(w[3]), x.ppoly(w[4])
	x.wrong = x.wrong || u.P != modulus || v.P != modulus
	one := api.PPoly{P: modulus, C: []uint32{1}}
	return func() bool {
		return zgcd.Holds(f, g, api.ZGcd{G: d, A: a, B: b, W: api.PBezout{G: one, U: u, V: v}})
	}
}

// irr is a paper over a prime.
func (x *taker) irr(t api.Tree) api.PIrr {
	first, rest := x.some(t, 1)
	out := api.PIrr{F: x.ppoly(first[0])}
	for _, k := range rest {
		l := x.fixed(k, 3)
		out.W = append(out.W, api.PBezout{G: x.ppoly(l[0]), U: x.ppoly(l[1]), V: x.ppoly(l[2])})
	}
	return out
}

// zirr is a paper over the whole numbers.
func (x *taker) zirr(t api.Tree) api.ZIrr {
	l := x.fixed(t, 3)
	lift := x.fixed(l[2], 3)
	return api.ZIrr{
		F:    x.zpoly(l[0]),
		Mod:  each(x, x.irr, l[1]),
		Lift: api.Lift{P: x.word32(lift[0]), K: x.small(lift[1]), L: each(x, x.zpoly, lift[2])},
	}
}

func (x *taker) factor(p api.Paper) func() bool {
	f := x.zpoly(p.Question)
	first, rest := x.some(p.Answer, 1)
	factors := api.ZFactors{C: x.num(first[0])}
	for _, t := range rest {
		l := x.fixed(t, 2)
		factors.L = append(factors.L, api.ZPower{F: x.zpoly(l[0]), N: x.small(l[1])})
	}
	papers := each(x, x.zirr, p.Witness)
	return func() bool { return zassen.Holds(f, factors, papers) }
}

func (x *taker) factorp(p api.Paper) func() bool {
	f := x.ppoly(p.Question)
	first, rest := x.some(p.Answer, 1)
	factors := api.PFactors{C: x.word32(first[0])}
	for _, t := range rest {
		l := x.fixed(t, 2)
		factors.L = append(factors.L, api.PPower{F: x.ppoly(l[0]), N: x.small(l[1])})
	}
	papers := each(x, x.irr, p.Witness)
	return func() bool { return split.Holds(f, factors, papers) }
}

func (x *taker) count(p api.Paper) func() bool {
	q, w := x.fixed(p.Question, 3), x.fixed(p.Witness, 2)
	f, a, b := x.zpoly(q[0]), x.rat(q[1]), x.rat(q[2])
	k := x.small(p.Answer)
	chain := api.Chain{F: each(x, x.zpoly, w[0]), S: each(x, func(t api.Tree) api.SturmStep {
		l := x.fixed(t, 3)
		return api.SturmStep{A: x.num(l[0]), B: x.num(l[1]), Q: x.zpoly(l[2])}
	}, w[1])}
	return func() bool {
		n, e := sturm.Count(f, a, b)
		return e == api.OK && n == k && sturm.Holds(f, chain)
	}
}

func (x *taker) roots(p api.Paper) func() bool {
	f := x.zpoly(p.Question)
	l := each(x, func(t api.Tree) api.Interval {
		ends := x.fixed(t, 2)
		return api.Interval{Lo: x.rat(ends[0]), Hi: x.rat(ends[1])}
	}, p.Answer)
	x.nothing(p.Witness)
	return func() bool { return isolate.Holds(f, l) }
}

func (x *taker) linear(p api.Paper) func() bool {
	q, l := x.fixed(p.Question, 2), x.fixed(p.Answer, 2)
	a, b := x.mat(q[0]), x.rats(q[1])
	w := api.Linear{X: x.rats(l[0]), K: each(x, x.rats, l[1])}
	x.nothing(p.Witness)
	return func() bool { return matrix.Holds(a, b, w, true) }
}

func (x *taker) nolinear(p api.Paper) func() bool {
	q := x.fixed(p.Question, 2)
	a, b := x.mat(q[0]), x.rats(q[1])
	x.word(p.Answer, "no")
	w := api.Linear{Y: x.rats(p.Witness)}
	return func() bool { return matrix.Holds(a, b, w, false) }
}

func (x *taker) divide(p api.Paper) func() bool {
	q := x.fixed(p.Question, 3)
	f, l, o := x.mpoly(q[0]), x.mpolys(q[1]), x.order(q[2])
	d := api.Divided{R: x.mpoly(p.Answer), Q: x.mpolys(p.Witness)}
	return func() bool { return mdiv.Holds(f, l, o, d) }
}

func (x *taker) in(p api.Paper) func() bool {
	q := x.fixed(p.Question, 2)
	f, l := x.mpoly(q[0]), x.mpolys(q[1])
	x.word(p.Answer, "yes")
	c := x.mpolys(p.Witness)
	return func() bool { return ideal.HoldsIn(f, l, c) }
}

func (x *taker) out(p api.Paper) func() bool {
	q, w := x.fixed(p.Question, 2), x.fixed(p.Witness, 3)
	f, l := x.mpoly(q[0]), x.mpolys(q[1])
	x.word(p.Answer, "no")
	b := api.Basis{G: x.mpolys(w[0]), A: each(x, x.mpolys, w[1]), B: each(x, x.mpolys, w[2])}
	return func() bool { return ideal.Out(f, l, b) }
}

func (x *taker) basis(p api.Paper) func() bool {
	q, w := x.fixed(p.Question, 2), x.fixed(p.Witness, 2)
	l, o := x.mpolys(q[0]), x.order(q[1])
	b := api.Basis{G: x.mpolys(p.Answer), A: each(x, x.mpolys, w[0]), B: each(x, x.mpolys, w[1])}
	return func() bool { return groebner.Holds(l, o, b) }
}

// quotient says whether something holds of n by d, that isn't 0.
func quotient(n, d api.QPoly, holds func(f api.RatFun) bool) bool {
	f, e := ratfun.New(n, d)
	return e == api.OK && holds(f)
}

func (x *taker) apart(p api.Paper) func() bool {
	q := x.fixed(p.Question, 2)
	n, d := x.qpoly(q[0]), x.qpoly(q[1])
	first, rest := x.some(p.Answer, 1)
	a := api.Apart{Whole: x.qpoly(first[0])}
	for _, t := range rest {
		l := x.fixed(t, 3)
		a.L = append(a.L, api.Part{Den: x.qpoly(l[0]), N: x.small(l[1]), Num: x.qpoly(l[2])})
	}
	x.nothing(p.Witness)
	return func() bool {
		return quotient(n, d, func(f api.RatFun) bool { return ratfun.Holds(f, a) })
	}
}

func (x *taker) integral(p api.Paper) func() bool {
	q := x.fixed(p.Question, 2)
	n, d := x.qpoly(q[0]), x.qpoly(q[1])
	first, rest := x.some(p.Answer, 1)
	r := x.fixed(first[0], 2)
	i := api.Integral{R: api.RatFun{Num: x.qpoly(r[0]), Den: x.qpoly(r[1])}}
	for _, t := range rest {
		l := x.fixed(t, 2)
		i.L = append(i.L, api.Log{Q: x.qpoly(l[0]), S: each(x, x.qpoly, l[1])})
	}
	x.nothing(p.Witness)
	return func() bool {
		return quotient(n, d, func(f api.RatFun) bool { return integral.Holds(f, i) })
	}
}

func (x *taker) inverse(p api.Paper) func() bool {
	a, b := x.mat(p.Question), x.mat(p.Answer)
	x.nothing(p.Witness)
	return func() bool {
		one, _ := matrix.One(a.R)
		ab, e := matrix.Mul(a, b)
		ba, f := matrix.Mul(b, a)
		return a.R == a.C && e == api.OK && f == api.OK && matrix.Same(ab, one) && matrix.Same(ba, one)
	}
}
