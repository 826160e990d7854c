package shell

import (
	"slices"
	"strconv"
	"strings"

	"algebrist/api"
	"algebrist/digits"
	"algebrist/euclid"
	"algebrist/expr"
	"algebrist/isolate"
	"algebrist/mpoly"
	"algebrist/paper"
	"algebrist/prime"
	"algebrist/qpoly"
	"algebrist/ratfun"
	"algebrist/sturm"
	"algebrist/zassen"
	"algebrist/zgcd"
	"algebrist/zpoly"
)

const (
	maxNumber = 1 << 40 // of numbers that are factored, or asked whether they are prime
	places    = 6       // of roots
)

func (w *work) let() {
	l := w.first()
	name := l[0].variable()
	at, known := w.find(name)
	must(known || len(w.state) < maxNames, api.ErrRange)
	state := slices.Clone(w.state)
	if known {
		state[at] = api.Binding{Name: name, E: l[1].e}
	} else {
		state = slices.Insert(state, at, api.Binding{Name: name, E: l[1].e})
	}
	w.state = state
	w.text = expr.Print(l[1].e)
}

func (w *work) show() {
	f := w.first()[0].form
	w.text = quotientText(termsText(f.Names, f.Num.T), termsText(f.Names, f.Den.T), mpoly.Deg(f.Den) == 0)
}

func (w *work) diff() {
	l := w.first()
	fs, name := functions(l[0])
	if by := l[1].variable(); !slices.Equal(l[0].form.Names, []string{by}) {
		w.text = "0"
		return
	}
	w.text = functionText(name, ratfun.Diff(fs[0]))
}

func (w *work) gcd() {
	l := w.first()
	if l[0].isWhole() && l[1].isWhole() {
		a, b := l[0].whole(), l[1].whole()
		x := euclid.Gcd(a, b)
		w.text = digits.Text(x.G)
		w.put("gcdint", paper.List(paper.Num(a), paper.Num(b)), paper.Num(x.G), paper.List(paper.Num(x.U), paper.Num(x.V)))
		return
	}
	fs, name := wholes(l...)
	x := zgcd.Gcd(fs[0], fs[1])
	w.text = polyText(name, qpoly.From(x.G))
	witness := paper.List(paper.OfZ(x.A), paper.OfZ(x.B), natural(uint64(x.W.G.P)), paper.OfP(x.W.U), paper.OfP(x.W.V))
	w.put("gcd", paper.List(paper.OfZ(fs[0]), paper.OfZ(fs[1])), paper.OfZ(x.G), witness)
}

func (w *work) factor() {
	x := w.first()[0]
	if x.isWhole() {
		w.factorNumber(between(x.whole(), 1, maxNumber))
		return
	}
	fs, name := wholes(x)
	factors, papers, e := zassen.Factor(fs[0])
	throw(e)
	var parts []string
	if !isOne(factors.C) {
		parts = append(parts, digits.Text(factors.C))
	}
	for _, p := range factors.L {
		parts = append(parts, powerText(polyText(name, qpoly.From(p.F)), p.N))
	}
	w.text = strings.Join(parts, "*")
	w.put("factor", paper.OfZ(fs[0]), factorsTree(factors), trees(papers, zirrTree))
}

func (w *work) factorNumber(n int) {
	primes, times, _ := prime.Factor(uint64(n))
	parts := []string{}
	for i, p := range primes {
		s := strconv.FormatUint(p, 10)
		if times[i] > 1 {
			s += "^" + strconv.Itoa(times[i])
		}
		parts = append(parts, s)
	}
	if len(parts) == 0 {
		parts = append(parts, "1")
	}
	w.text = strings.Join(parts, "*")
}

func (w *work) prime() {
	n := between(w.first()[0].whole(), 0, maxNumber)
	is := prime.Is(uint64(n))
	w.text = yesNo(is)
	if is {
		l, _ := prime.Prove(uint64(n))
		w.put("prime", paper.Small(n), word("yes"), trees(l, stepTree))
	}
}

func (w *work) roots() {
	fs, _ := wholes(w.first()[0])
	f := fs[0]
	must(len(f) > 0, api.ErrZero)
	must(zpoly.Deg(f) <= api.MaxDegree, api.ErrRange)
	l, _ := isolate.All(f)
	var texts []string
	for k := range l {
		texts = append(texts, got(isolate.Digits(f, k, places)))
	}
	w.text = row(texts)
	w.put("roots", paper.OfZ(f), trees(l, intervalTree), paper.List())
}

func (w *work) count() {
	l := w.first()
	fs, _ := wholes(l[0])
	a, b := l[1].number(), l[2].number()
	n := got(sturm.Count(fs[0], a, b))
	w.text = strconv.Itoa(n)
	c, _ := sturm.Make(fs[0])
	w.put("count", paper.List(paper.OfZ(fs[0]), paper.OfRat(a), paper.OfRat(b)), paper.Small(n), chainTree(c))
}

func (w *work) approx() {
	l := w.first()
	fs, _ := wholes(l[0])
	k, p := l[1].count(), l[2].count()
	w.text = got(isolate.Digits(fs[0], k, p))
}
