package shell

import (
	"algebrist/api"
	"algebrist/paper"
)

// put has a paper for the reply, if it can be read.
func (w *work) put(verb string, question, answer, witness api.Tree) {
	s, e := paper.Put(api.Paper{Verb: verb, Question: question, Answer: answer, Witness: witness})
	if e != api.OK {
		return
	}
	if _, _, e := paper.Read(s); e == api.OK {
		w.paper = s
	}
}

// word is a word as a tree.
func word(s string) api.Tree {
	t, _ := paper.Word(s)
	return t
}

// trees is the list of the trees of all of some things.
func trees[T any](l []T, of func(T) api.Tree) api.Tree {
	var out []api.Tree
	for _, x := range l {
		out = append(out, of(x))
	}
	return paper.List(out...)
}

func natural(n uint64) api.Tree { return paper.Small(int(n)) }

func stepTree(s api.PrattStep) api.Tree {
	return paper.List(natural(s.N), natural(s.G), trees(s.Q, natural), trees(s.E, paper.Small))
}

func irrTree(w api.PIrr) api.Tree {
	l := []api.Tree{paper.OfP(w.F)}
	for _, b := range w.W {
		l = append(l, paper.List(paper.OfP(b.G), paper.OfP(b.U), paper.OfP(b.V)))
	}
	return paper.List(l...)
}

func zirrTree(w api.ZIrr) api.Tree {
	lift := paper.List(natural(uint64(w.Lift.P)), paper.Small(w.Lift.K), trees(w.Lift.L, paper.OfZ))
	return paper.List(paper.OfZ(w.F), trees(w.Mod, irrTree), lift)
}

func factorsTree(x api.ZFactors) api.Tree {
	l := []api.Tree{paper.Num(x.C)}
	for _, p := range x.L {
		l = append(l, paper.List(paper.OfZ(p.F), paper.Small(p.N)))
	}
	return paper.List(l...)
}

func chainTree(c api.Chain) api.Tree {
	return paper.List(trees(c.F, paper.OfZ), trees(c.S, func(s api.SturmStep) api.Tree {
		return paper.List(paper.Num(s.A), paper.Num(s.B), paper.OfZ(s.Q))
	}))
}

func intervalTree(x api.Interval) api.Tree { return paper.List(paper.OfRat(x.Lo), paper.OfRat(x.Hi)) }

func functionTree(f api.RatFun) api.Tree { return paper.List(paper.OfQ(f.Num), paper.OfQ(f.Den)) }

func apartTree(a api.Apart) api.Tree {
	l := []api.Tree{paper.OfQ(a.Whole)}
	for _, p := range a.L {
		l = append(l, paper.List(paper.OfQ(p.Den), paper.Small(p.N), paper.OfQ(p.Num)))
	}
	return paper.List(l...)
}

func integralTree(x api.Integral) api.Tree {
	l := []api.Tree{functionTree(x.R)}
	for _, log := range x.L {
		l = append(l, paper.List(paper.OfQ(log.Q), trees(log.S, paper.OfQ)))
	}
	return paper.List(l...)
}

func cofactorTrees(b api.Basis) (a, c api.Tree) {
	return trees(b.A, paper.OfMs), trees(b.B, paper.OfMs)
}
