package shell

import (
	"strconv"
	"strings"

	"algebrist/api"
	"algebrist/frac"
	"algebrist/groebner"
	"algebrist/ideal"
	"algebrist/integral"
	"algebrist/matrix"
	"algebrist/paper"
	"algebrist/ratfun"
	"algebrist/series"
	"algebrist/solve"
)

func grevLex() api.Order { return api.Order{Kind: api.GrevLex} }

func (w *work) det() { w.text = frac.Text(got(matrix.Det(w.square()))) }

func (w *work) rank() { w.text = strconv.Itoa(matrix.Rank(w.rows())) }

func (w *work) inverse() {
	a := w.square()
	b := got(matrix.Inverse(a))
	var rows []string
	for i := range b.R {
		rows = append(rows, entries(b.A[i*b.C:(i+1)*b.C]))
	}
	w.text = strings.Join(rows, "; ")
	w.put("inverse", paper.OfMat(a), paper.OfMat(b), paper.List())
}

func (w *work) linear() {
	m := w.rows()
	a := api.Mat{R: m.R, C: m.C - 1}
	var b []api.Rat
	for i := range m.R {
		row := m.A[i*m.C : (i+1)*m.C]
		a.A = append(a.A, row[:a.C]...)
		b = append(b, row[a.C])
	}
	x, some, _ := matrix.Solve(a, b)
	question := paper.List(paper.OfMat(a), paper.OfRats(b))
	if !some {
		w.text = "none"
		w.put("nolinear", question, word("no"), paper.OfRats(x.Y))
		return
	}
	w.text = strings.Join(each(append([][]api.Rat{x.X}, x.K...), entries), "; ")
	w.put("linear", question, paper.List(paper.OfRats(x.X), trees(x.K, paper.OfRats)), paper.List())
}

func (w *work) in() {
	fs, _ := polynomials(append(w.groups[0][:1:1], w.groups[1]...)...)
	f, l := fs[0], fs[1:]
	c, is, e := ideal.In(f, l)
	throw(e)
	w.text = yesNo(is)
	question := paper.List(paper.OfM(f), paper.OfMs(l))
	if is {
		w.put("in", question, word("yes"), paper.OfMs(c))
		return
	}
	if b, e := groebner.Make(l, grevLex()); e == api.OK {
		rows, back := cofactorTrees(b)
		w.put("out", question, word("no"), paper.List(paper.OfMs(b.G), rows, back))
	}
}

func (w *work) basis() {
	l, names := polynomials(w.first()...)
	b := got(groebner.Make(l, grevLex()))
	w.text = row(each(b.G, func(f api.MPoly) string { return termsText(names, f.T) }))
	rows, back := cofactorTrees(b)
	w.put("basis", paper.List(paper.OfMs(l), paper.OfOrder(grevLex())), paper.OfMs(b.G), paper.List(rows, back))
}

func (w *work) points() {
	l, _ := polynomials(w.first()...)
	points := got(solve.Points(l))
	w.text = row(each(points, func(p []api.Rat) string { return "(" + strings.Join(each(p, frac.Text), ", ") + ")" }))
}

func (w *work) apart() {
	fs, name := functions(w.first()[0])
	a := got(ratfun.Split(fs[0]))
	var parts []string
	if len(a.Whole) > 0 || len(a.L) == 0 {
		parts = append(parts, polyText(name, a.Whole))
	}
	for _, p := range a.L {
		parts = append(parts, "("+polyText(name, p.Num)+")/"+powerText(polyText(name, p.Den), p.N))
	}
	w.text = strings.Join(parts, " + ")
	w.put("apart", functionTree(fs[0]), apartTree(a), paper.List())
}

func (w *work) integrate() {
	fs, name := functions(w.first()[0])
	x := got(integral.Of(fs[0]))
	z := "z"
	if name == z {
		z = "t"
	}
	parts := []string{functionText(name, x.R)}
	for _, l := range x.L {
		parts = append(parts, logText(name, z, l))
	}
	w.text = strings.Join(parts, "; ")
	w.put("integral", functionTree(fs[0]), integralTree(x), paper.List())
}

func (w *work) area() {
	l := w.first()
	fs, _ := functions(l[0])
	w.text = frac.Text(got(integral.Definite(fs[0], l[1].number(), l[2].number())))
}

func (w *work) series() {
	l := w.first()
	fs, _ := functions(l[0])
	n := l[1].count()
	s := got(series.Of(fs[0], n))
	for len(s) < n {
		s = append(s, frac.Whole(api.Int{}))
	}
	w.text = entries(s)
}
