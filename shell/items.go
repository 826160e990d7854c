package shell

import (
	"slices"

	"algebrist/api"
	"algebrist/frac"
	"algebrist/mpoly"
	"algebrist/qpoly"
	"algebrist/ratfun"
	"algebrist/whole"
)

// maxCount is the greatest count.
const maxCount = 1000

// first is the items of the first group.
func (w *work) first() []item { return w.groups[0] }

// variable is the name that an item is.
func (x item) variable() string {
	must(len(x.e) == 1 && x.e[0].Kind == api.NodeVar, api.ErrKind)
	return x.e[0].Name
}

// isNumber says whether a form has no names.
func (x item) isNumber() bool { return len(x.form.Names) == 0 }

// number is the number that an item is.
func (x item) number() api.Rat {
	must(x.isNumber(), api.ErrKind)
	return constant(x.form.Num)
}

// constant is the coefficient of 1.
func constant(f api.MPoly) api.Rat {
	if len(f.T) == 0 {
		return frac.Whole(api.Int{})
	}
	return f.T[len(f.T)-1].C
}

// isWhole says whether an item is a whole number.
func (x item) isWhole() bool { return x.isNumber() && isOne(x.number().Den) }

func isOne(a api.Int) bool { return whole.Same(a, whole.Of(1)) }

// whole is the whole number that an item is.
func (x item) whole() api.Int {
	must(x.isWhole(), api.ErrKind)
	return x.number().Num
}

// count is the count that an item is.
func (x item) count() int {
	n, ok := whole.Int(x.whole())
	must(ok && n >= 0 && n <= maxCount, api.ErrKind)
	return n
}

// between is a whole number as one of Go, that is to be in a range.
func between(a api.Int, low, high int) int {
	n, ok := whole.Int(a)
	must(ok && n >= low && n <= high, api.ErrRange)
	return n
}

// isPolynomial says whether the form's denominator is 1.
func (x item) isPolynomial() bool { return mpoly.Deg(x.form.Den) == 0 }

// functions are the functions that items are, of one variable together, and its name.
func functions(items ...item) ([]api.RatFun, string) {
	var names []string
	for _, x := range items {
		names = append(names, x.form.Names...)
	}
	slices.Sort(names)
	names = slices.Compact(names)
	must(len(names) <= 1, api.ErrKind)
	var out []api.RatFun
	for _, x := range items {
		out = append(out, got(ratfun.New(inOne(x.form.Num), inOne(x.form.Den))))
	}
	return out, append(names, "x")[0]
}

// inOne is a polynomial in one variable at most.
func inOne(f api.MPoly) api.QPoly {
	q, _ := mpoly.One(mpoly.Widen(f, max(1, f.N)), 0)
	return q
}

// wholes are the whole polynomials that items are, of one variable together, and its name.
func wholes(items ...item) ([]api.ZPoly, string) {
	fs, name := functions(items...)
	var out []api.ZPoly
	for _, f := range fs {
		z := make(api.ZPoly, len(f.Num))
		for i, c := range f.Num {
			must(isOne(c.Den), api.ErrKind)
			z[i] = c.Num
		}
		must(qpoly.Deg(f.Den) == 0, api.ErrKind)
		out = append(out, z)
	}
	return out, name
}

// polynomials are the polynomials that items are, in the names of all, rising.
func polynomials(items ...item) ([]api.MPoly, []string) {
	var names []string
	for _, x := range items {
		must(x.isPolynomial(), api.ErrKind)
		names = append(names, x.form.Names...)
	}
	slices.Sort(names)
	names = slices.Compact(names)
	must(len(names) <= api.MaxVars, api.ErrRange)
	var out []api.MPoly
	for _, x := range items {
		f := api.MPoly{N: len(names)}
		for _, t := range x.form.Num.T {
			e := make([]int, len(names))
			for i, name := range x.form.Names {
				at, _ := slices.BinarySearch(names, name)
				e[at] = t.E[i]
			}
			f.T = append(f.T, api.Term{E: e, C: t.C})
		}
		out = append(out, f)
	}
	return out, names
}

// rows is the matrix whose rows the groups are.
func (w *work) rows() api.Mat {
	m := api.Mat{R: len(w.groups), C: len(w.first())}
	for _, g := range w.groups {
		must(len(g) == m.C, api.ErrArg)
	}
	must(m.R <= api.MaxSide && m.C <= api.MaxSide, api.ErrArg)
	for _, g := range w.groups {
		for _, x := range g {
			m.A = append(m.A, x.number())
		}
	}
	return m
}

// square is likewise, of as many rows as columns.
func (w *work) square() api.Mat {
	m := w.rows()
	must(m.R == m.C, api.ErrArg)
	return m
}
