package check

import (
	"strings"
	"testing"

	"algebrist/api"
	"algebrist/frac"
	"algebrist/groebner"
	"algebrist/integral"
	"algebrist/isolate"
	"algebrist/matrix"
	"algebrist/mpoly"
	"algebrist/paper"
	"algebrist/ppoly"
	"algebrist/prime"
	"algebrist/qpoly"
	"algebrist/ratfun"
	"algebrist/split"
	"algebrist/sturm"
	"algebrist/whole"
	"algebrist/zassen"
	"algebrist/zgcd"
	"algebrist/zpoly"
)

func verdict(t *testing.T, s string) api.Errno {
	t.Helper()
	p, _, e := paper.Read(s + "\n")
	if e != api.OK {
		t.Fatal(s, e)
	}
	return Check(p)
}

// P38.1, P38.2
func TestByHand(t *testing.T) {
	for s, want := range map[string]api.Errno{
		"(gcdint (4 6) 2 (-1 1))": api.OK, "(gcdint (4 6) 4 (1 0))": api.ErrWitness, "(gcdint (4 6) 1 (-1 1))": api.ErrWitness, "(gcdint 4 2 (-1 1))": api.ErrArg, "(gcdint (4 6 8) 2 (-1 1))": api.ErrArg, "(gcdint (4 yes) 2 (-1 1))": api.ErrArg, "(gcdint (4 6) 2 ())": api.ErrArg, "(gcdint (0 0) 0 (5 7))": api.OK, "(gcdint (4 6) -2 (1 -1))": api.ErrWitness,
		"(nosuch () () ())": api.ErrName, "(gcdin (4 6) 2 (-1 1))": api.ErrName,
		"(prime 7 yes ((3 2 (2) (1)) (7 3 (2 3) (1 1))))": api.OK, "(prime 7 no ((3 2 (2) (1)) (7 3 (2 3) (1 1))))": api.ErrArg, "(prime 2 yes ())": api.OK, "(prime 9 yes ((9 2 (2) (3))))": api.ErrWitness, "(prime 18446744073709551616 yes ())": api.ErrArg, "(prime 18446744073709551615 yes ())": api.ErrArg, "(prime -2 yes ())": api.ErrArg, "(prime 1 yes ())": api.ErrArg, "(prime 7 yes ((7 3 (2 3) (1))))": api.ErrWitness, "(prime 3 yes ((3 2 (2))))": api.ErrArg, "(prime 3 yes 3)": api.ErrArg, "(prime 3 yes ((3 2 (2) (4611686018427387905))))": api.ErrArg,
		"(gcd ((-4 0 4) (6 6)) (2 2) ((-2 2) (3) 5 (5 ()) (5 (2))))": api.OK, "(gcd ((-4 0 4) (6 6)) (1 1) ((-2 2) (3) 5 (5 ()) (5 (2))))": api.ErrWitness, "(gcd (() ()) () (() () 2 (2 ()) (2 ())))": api.OK, "(gcd (() ()) () (() () 3 (2 ()) (2 ())))": api.ErrArg, "(gcd (() ()) () (() () 4 (4 ()) (4 ())))": api.ErrArg, "(gcd (() ()) () (() () 2 (2 ()) (3 ())))": api.ErrArg, "(gcd (() ()) () (() () 2 (3 ()) (2 ())))": api.ErrArg, "(gcd (() ()) (1) (() () 2 (2 ()) (2 ())))": api.ErrWitness, "(gcd ((0) ()) () (() () 2 (2 ()) (2 ())))": api.ErrArg,
		"(factor (-6 2) (2 ((-3 1) 1)) (((-3 1) () (0 0 ()))))": api.OK, "(factor (-6 2) (2 ((-3 1) 1)) ())": api.ErrWitness, "(factor (-6 2) () (((-3 1) () (0 0 ()))))": api.ErrArg, "(factor (-6 2) (1 ((-6 2) 1)) (((-6 2) () (0 0 ()))))": api.ErrWitness, "(factor (9 6 1) (1 ((3 1) 2)) (((3 1) () (0 0 ()))))": api.OK, "(factor (9 6 1) (1 ((3 1) 1)) (((3 1) () (0 0 ()))))": api.ErrWitness, "(factor (9 6 1) (1 ((3 1) 2)) (((3 1) () (-1 0 ()))))": api.ErrArg, "(factor (9 6 1) (1 ((3 1) 2)) (((3 1) (0 0 ()))))": api.ErrArg,
		"(factorp (5 (4 0 1)) (1 ((5 (1 1)) 1) ((5 (4 1)) 1)) (((5 (1 1))) ((5 (4 1)))))": api.OK, "(factorp (5 (4 0 1)) (1 ((5 (4 1)) 1) ((5 (1 1)) 1)) (((5 (4 1))) ((5 (1 1)))))": api.ErrWitness, "(factorp (5 (4 0 1)) (4294967296) ())": api.ErrArg, "(factorp (5 (4 0 1)) (1 ((5 (4 0 1)) 1)) (((5 (4 0 1)) ((5 (1)) (5 ()) (5 ())))))": api.ErrWitness,
		"(count ((-2 0 1) (0 1) (2 1)) 1 (((-2 0 1) (0 2) (1)) ((2 4 (0 1)) (1 1 (0 2)))))": api.OK, "(count ((-2 0 1) (0 1) (2 1)) 2 (((-2 0 1) (0 2) (1)) ((2 4 (0 1)) (1 1 (0 2)))))": api.ErrWitness, "(count ((-2 0 1) (2 1) (0 1)) 0 (((-2 0 1) (0 2) (1)) ((2 4 (0 1)) (1 1 (0 2)))))": api.ErrWitness, "(count ((-2 0 1) (0 1) (2 1)) 1 (((-2 0 1)) ()))": api.ErrWitness, "(count ((-2 0 1) 0 (2 1)) 1 (() ()))": api.ErrArg, "(count (() (0 1) (0 1)) 0 (() ()))": api.ErrWitness,
		"(roots (-1 0 4) (((-1 2) (-1 2)) ((0 1) (1 1))) ())": api.OK, "(roots (-1 0 4) (((-1 2) (-1 2))) ())": api.ErrWitness, "(roots (-1 0 4) (((-1 2) (-1 2)) ((0 1) (1 1))) (1))": api.ErrArg, "(roots () () ())": api.ErrWitness, "(roots (5) () ())": api.OK, "(roots (-1 0 4) ((0 1)) ())": api.ErrArg,
		"(linear ((1 1 ((2 1))) ((3 1))) (((3 2)) ()) ())": api.OK, "(linear ((1 1 ((2 1))) ((3 1))) (((1 2)) ()) ())": api.ErrWitness, "(nolinear ((1 1 ((0 1))) ((3 1))) no ((1 3)))": api.OK, "(nolinear ((1 1 ((0 1))) ((3 1))) no ((1 2)))": api.ErrWitness, "(nolinear ((1 1 ((0 1))) ((3 1))) yes ((1 3)))": api.ErrArg, "(nolinear ((1 1 ((2 1))) ((3 1))) no ((1 3)))": api.ErrWitness,
		"(divide ((1 ((2) (1 1))) ((1 ((1) (1 1)))) (0 0)) (1) ((1 ((1) (1 1)))))": api.OK, "(divide ((1 ((2) (1 1))) ((1 ((1) (1 1)))) (0 0)) (1 ((2) (1 1))) ((1)))": api.ErrWitness, "(divide ((1 ((2) (1 1))) ((1 ((1) (1 1)))) (4 0)) (1) ((1 ((1) (1 1)))))": api.ErrArg,
		"(in ((1 ((2) (1 1))) ((1 ((1) (1 1))))) yes ((1 ((1) (1 1)))))": api.OK, "(in ((1 ((2) (1 1))) ((1 ((1) (1 1))))) yes ((1)))": api.ErrWitness, "(in ((1 ((2) (1 1))) ((1 ((1) (1 1))))) no ((1)))": api.ErrArg,
		"(out ((1 ((0) (1 1))) ((1 ((1) (1 1))))) no (((1 ((1) (1 1)))) (((1 ((0) (1 1))))) (((1 ((0) (1 1)))))))": api.OK, "(out ((1 ((1) (1 1))) ((1 ((1) (1 1))))) no (((1 ((1) (1 1)))) (((1 ((0) (1 1))))) (((1 ((0) (1 1)))))))": api.ErrWitness,
		"(basis (((1 ((1) (2 1)))) (2 0)) ((1 ((1) (1 1)))) ((((1 ((0) (1 2))))) (((1 ((0) (2 1)))))))": api.OK, "(basis (((1 ((1) (2 1)))) (2 0)) ((1 ((1) (2 1)))) ((((1 ((0) (1 1))))) (((1 ((0) (1 1)))))))": api.ErrWitness,
		"(apart (((1 1)) ((-1 1) (0 1) (1 1))) (() (((-1 1) (1 1)) 1 ((1 2))) (((1 1) (1 1)) 1 ((-1 2)))) ())": api.OK, "(apart (((1 1)) ((-1 1) (0 1) (1 1))) (() (((1 1) (1 1)) 1 ((-1 2))) (((-1 1) (1 1)) 1 ((1 2)))) ())": api.ErrWitness, "(apart (((1 1)) ()) (()) ())": api.ErrWitness, "(apart (((1 1)) ()) () ())": api.ErrArg, "(apart (((2 1)) ((2 1))) (((1 1))) ())": api.OK,
		"(integral (((1 1)) ((0 1) (1 1))) ((() ((1 1))) (((-1 1) (1 1)) (() ((1 1))))) ())": api.OK, "(integral (((1 1)) ((0 1) (1 1))) ((() ((1 1)))) ())": api.ErrWitness, "(integral (((1 1)) ()) ((() ((1 1)))) ())": api.ErrWitness, "(integral (((1 1)) ((0 1) (1 1))) (()) ())": api.ErrArg,
		"(inverse (1 1 ((2 1))) (1 1 ((1 2))) ())": api.OK, "(inverse (1 1 ((2 1))) (1 1 ((1 3))) ())": api.ErrWitness, "(inverse (1 2 ((1 1) (0 1))) (2 1 ((1 1) (0 1))) ())": api.ErrWitness, "(inverse (0 0 ()) (0 0 ()) ())": api.OK, "(inverse (1 1 ((2 1))) (1 1 ((1 2))) 1)": api.ErrArg,
	} {
		if got := verdict(t, s); got != want {
			t.Error(s, got, want)
		}
	}
}

func TestWhatMayNotBe(t *testing.T) {
	good, _, _ := paper.Read("(gcdint (4 6) 2 (-1 1))\n")
	for i, f := range []func(p *api.Paper){
		func(p *api.Paper) { p.Question = nil }, func(p *api.Paper) { p.Answer = nil }, func(p *api.Paper) { p.Witness = nil },
		func(p *api.Paper) { p.Question = append(api.Tree{{Kind: 7}}, p.Question...) }, func(p *api.Paper) { p.Answer = api.Tree{{Kind: api.LeafNum, Num: api.Int{Mag: []uint32{2, 0}}}} },
		func(p *api.Paper) { p.Witness = api.Tree{{Kind: api.LeafList, Kids: []int{5}}} },
	} {
		p := good
		f(&p)
		if Check(p) != api.ErrArg {
			t.Error(i)
		}
	}
	if Check(api.Paper{}) != api.ErrName || Check(good) != api.OK {
		t.Error("name")
	}
	good.Verb = strings.Repeat("x", 30)
	if Check(good) != api.ErrName {
		t.Error("long name")
	}
}

func zp(l ...int) api.ZPoly {
	out := make(api.ZPoly, len(l))
	for i, n := range l {
		out[i] = whole.Of(n)
	}
	return zpoly.Add(out, nil)
}

func irr(w api.PIrr) api.Tree {
	l := []api.Tree{paper.OfP(w.F)}
	for _, b := range w.W {
		l = append(l, paper.List(paper.OfP(b.G), paper.OfP(b.U), paper.OfP(b.V)))
	}
	return paper.List(l...)
}

func trees[T any](l []T, of func(T) api.Tree) api.Tree {
	var out []api.Tree
	for _, x := range l {
		out = append(out, of(x))
	}
	return paper.List(out...)
}

// P38.1: the question of prime has a form of its own, narrower than that of the numbers in its steps.
func TestPrimeForms(t *testing.T) {
	for s, want := range map[string]api.Errno{
		"(prime -1 yes ())": api.ErrArg, "(prime 0 yes ())": api.ErrArg, "(prime 1 yes ())": api.ErrArg, "(prime 2 yes ())": api.OK, "(prime 4 yes ())": api.ErrWitness,
		"(prime 9223372036854775807 yes ())": api.ErrWitness, "(prime 9223372036854775808 yes ())": api.ErrArg, "(prime 18446744073709551615 yes ())": api.ErrArg, "(prime 18446744073709551616 yes ())": api.ErrArg, "(prime x yes ())": api.ErrArg, "(prime (2) yes ())": api.ErrArg,
		"(prime 1 yes ((1 1 () ())))": api.ErrArg, "(prime 9223372036854775808 yes ((9223372036854775808 1 () ())))": api.ErrArg,
		"(prime 3 yes ((0 2 (2) (1))))": api.ErrWitness, "(prime 3 yes ((1 2 (2) (1))))": api.ErrWitness, "(prime 3 yes ((18446744073709551615 2 (2) (1)) (3 2 (2) (1))))": api.ErrWitness, "(prime 3 yes ((18446744073709551616 2 (2) (1)) (3 2 (2) (1))))": api.ErrArg, "(prime 3 yes ((-3 2 (2) (1))))": api.ErrArg,
		"(prime 3 yes ((3 0 (2) (1))))": api.ErrWitness, "(prime 3 yes ((3 18446744073709551615 (2) (1))))": api.ErrWitness, "(prime 3 yes ((3 18446744073709551616 (2) (1))))": api.ErrArg, "(prime 3 yes ((3 -1 (2) (1))))": api.ErrArg,
		"(prime 3 yes ((3 2 (0) (1))))": api.ErrWitness, "(prime 3 yes ((3 2 (18446744073709551615) (1))))": api.ErrWitness, "(prime 3 yes ((3 2 (18446744073709551616) (1))))": api.ErrArg, "(prime 3 yes ((3 2 (2) (0))))": api.ErrWitness, "(prime 3 yes ((3 2 (2) (1))))": api.OK,
	} {
		if got := verdict(t, s); got != want {
			t.Error(s, got, want)
		}
	}
}

// Witnesses that the layers give are accepted; with another answer they are not.
func TestLayersPapers(t *testing.T) {
	accepted := func(p api.Paper, others ...api.Tree) {
		t.Helper()
		s, e := paper.Put(p)
		q, _, _ := paper.Read(s)
		if e != api.OK || Check(q) != api.OK {
			t.Fatal("refused", s, Check(q))
		}
		for _, a := range others {
			p.Answer = a
			if Check(p) == api.OK {
				t.Fatal("accepted", p)
			}
		}
	}
	l, _ := prime.Prove(1000003)
	word := func(n uint64) api.Tree { return paper.Small(int(n)) }
	yes, _ := paper.Word("yes")
	accepted(api.Paper{Verb: "prime", Question: word(1000003), Answer: yes, Witness: trees(l, func(s api.PrattStep) api.Tree {
		return paper.List(word(s.N), word(s.G), trees(s.Q, word), trees(s.E, paper.Small))
	})})
	f, g := zpoly.Mul(zp(-2, 1), zp(3, 1, 1)), zp(4, -6, 2)
	w := zgcd.Gcd(f, g)
	accepted(api.Paper{Verb: "gcd", Question: paper.List(paper.OfZ(f), paper.OfZ(g)), Answer: paper.OfZ(w.G), Witness: paper.List(paper.OfZ(w.A), paper.OfZ(w.B), paper.Small(int(w.W.G.P)), paper.OfP(w.W.U), paper.OfP(w.W.V))}, paper.OfZ(zp(1)), paper.OfZ(zpoly.Neg(w.G)))
	f = zpoly.Mul(zp(1, 0, 0, 0, 1), zp(-3, 3))
	x, papers, _ := zassen.Factor(f)
	answer := []api.Tree{paper.Num(x.C)}
	for _, p := range x.L {
		answer = append(answer, paper.List(paper.OfZ(p.F), paper.Small(p.N)))
	}
	accepted(api.Paper{Verb: "factor", Question: paper.OfZ(f), Answer: paper.List(answer...), Witness: trees(papers, func(w api.ZIrr) api.Tree {
		return paper.List(paper.OfZ(w.F), trees(w.Mod, irr), paper.List(paper.Small(int(w.Lift.P)), paper.Small(w.Lift.K), trees(w.Lift.L, paper.OfZ)))
	})}, paper.List(answer[0], paper.List(paper.OfZ(f), paper.Small(1))), paper.List(answer[:2]...))
	h := ppoly.From(7, f)
	y, over, _ := split.Factor(h, 1)
	answer = []api.Tree{paper.Small(int(y.C))}
	for _, p := range y.L {
		answer = append(answer, paper.List(paper.OfP(p.F), paper.Small(p.N)))
	}
	accepted(api.Paper{Verb: "factorp", Question: paper.OfP(h), Answer: paper.List(answer...), Witness: trees(over, irr)}, paper.List(answer[0]))
	c, _ := sturm.Make(f)
	rat := func(n int) api.Rat { return frac.Whole(whole.Of(n)) }
	accepted(api.Paper{Verb: "count", Question: paper.List(paper.OfZ(f), paper.OfRat(rat(-5)), paper.OfRat(rat(5))), Answer: paper.Small(1), Witness: paper.List(trees(c.F, paper.OfZ), trees(c.S, func(s api.SturmStep) api.Tree {
		return paper.List(paper.Num(s.A), paper.Num(s.B), paper.OfZ(s.Q))
	}))}, paper.Small(0), paper.Small(2))
	cubic := zp(1, -4, 0, 1)
	roots, _ := isolate.All(cubic)
	interval := func(i api.Interval) api.Tree { return paper.List(paper.OfRat(i.Lo), paper.OfRat(i.Hi)) }
	accepted(api.Paper{Verb: "roots", Question: paper.OfZ(cubic), Answer: trees(roots, interval), Witness: paper.List()}, trees(roots[1:], interval))
	a := api.Mat{R: 2, C: 2, A: []api.Rat{rat(1), rat(2), rat(3), rat(4)}}
	inv, _ := matrix.Inverse(a)
	accepted(api.Paper{Verb: "inverse", Question: paper.OfMat(a), Answer: paper.OfMat(inv), Witness: paper.List()}, paper.OfMat(a))
	ms := []api.MPoly{mpoly.Add(mpoly.Var(2, 0), mpoly.Var(2, 1)), mpoly.Var(2, 1)}
	o := api.Order{Kind: api.Lex}
	b, _ := groebner.Make(ms, o)
	accepted(api.Paper{Verb: "basis", Question: paper.List(paper.OfMs(ms), paper.OfOrder(o)), Answer: paper.OfMs(b.G), Witness: paper.List(trees(b.A, paper.OfMs), trees(b.B, paper.OfMs))}, paper.OfMs(ms))
	fun, _ := ratfun.New(qpoly.From(zp(1, 2)), qpoly.From(zp(0, -1, 0, 1)))
	i, _ := integral.Of(fun)
	answer = []api.Tree{paper.List(paper.OfQ(i.R.Num), paper.OfQ(i.R.Den))}
	for _, l := range i.L {
		answer = append(answer, paper.List(paper.OfQ(l.Q), trees(l.S, paper.OfQ)))
	}
	accepted(api.Paper{Verb: "integral", Question: paper.List(paper.OfQ(fun.Num), paper.OfQ(fun.Den)), Answer: paper.List(answer...), Witness: paper.List()}, paper.List(answer[0]))
}
