package expr

import (
	"slices"

	"algebrist/api"
	"algebrist/digits"
	"algebrist/frac"
	"algebrist/mpoly"
	"algebrist/sparse"
	"algebrist/whole"
)

// ratio is num by den, coprime, den monic by Lex.
type ratio struct{ num, den api.MPoly }

func lex() api.Order { return api.Order{Kind: api.Lex} }

func number(n int) api.Rat { return frac.Whole(whole.Of(n)) }

// product is a product; what has too great an exponent is thrown.
func product(f, g api.MPoly) api.MPoly {
	p, e := mpoly.Mul(f, g)
	if e != api.OK {
		panic(fault(e))
	}
	return p
}

// raised is a power, likewise.
func raised(f api.MPoly, n int) api.MPoly {
	p, e := mpoly.Pow(f, n)
	if e != api.OK {
		panic(fault(e))
	}
	return p
}

// reduced is num by den, which isn't 0, in lowest terms.
func reduced(num, den api.MPoly) ratio {
	if mpoly.Deg(den) > 0 {
		if g := Gcd(num, den); mpoly.Deg(g) > 0 {
			num, den = over(num, g), over(den, g)
		}
	}
	lead, _ := mpoly.Lead(den, lex())
	inv, _ := frac.Div(number(1), lead.C)
	return ratio{mpoly.Scale(num, inv), mpoly.Scale(den, inv)}
}

// over is f by g, which divides it.
func over(f, g api.MPoly) api.MPoly {
	w := sparse.WeightsOf(f.N, lex())
	left, by := w.Of(f), w.Of(g)
	var q sparse.Poly
	for len(left) > 0 {
		c, _ := frac.Div(left[0].C, by[0].C)
		t := sparse.Term{Mono: left[0].Over(by[0].Mono), C: c}
		q = append(q, t)
		left = left.Less(c, t.Mono, by)
	}
	return q.MPoly(f.N)
}

// Form: see the chapter.
func Form(e api.Expr) (f api.Fraction, err api.Errno) {
	names := Names(e)
	n := len(names)
	if n > api.MaxVars {
		return api.Fraction{}, api.ErrRange
	}
	defer func() {
		if caught(recover(), &err); err != api.OK {
			f = api.Fraction{}
		}
	}()
	one := mpoly.Const(n, number(1))
	sum := func(a, b ratio, put func(f, g api.MPoly) api.MPoly) ratio {
		left, right := product(a.num, b.den), product(b.num, a.den)
		return reduced(put(left, right), product(a.den, b.den))
	}
	r := fold(e, map[int]func(n api.Node, kids []ratio) ratio{
		api.NodeNum: func(x api.Node, kids []ratio) ratio { return ratio{mpoly.Const(n, frac.Whole(x.Num)), one} },
		api.NodeVar: func(x api.Node, kids []ratio) ratio {
			i, _ := slices.BinarySearch(names, x.Name)
			return ratio{mpoly.Var(n, i), one}
		},
		api.NodeAdd: func(x api.Node, kids []ratio) ratio { return sum(kids[0], kids[1], mpoly.Add) },
		api.NodeSub: func(x api.Node, kids []ratio) ratio { return sum(kids[0], kids[1], mpoly.Sub) },
		api.NodeMul: func(x api.Node, kids []ratio) ratio {
			return reduced(product(kids[0].num, kids[1].num), product(kids[0].den, kids[1].den))
		},
		api.NodeDiv: func(x api.Node, kids []ratio) ratio {
			if len(kids[1].num.T) == 0 {
				panic(fault(api.ErrZero))
			}
			return reduced(product(kids[0].num, kids[1].den), product(kids[0].den, kids[1].num))
		},
		api.NodePow: func(x api.Node, kids []ratio) ratio {
			k := power(e, x)
			return ratio{raised(kids[0].num, k), raised(kids[0].den, k)}
		},
		api.NodeNeg: func(x api.Node, kids []ratio) ratio { return ratio{mpoly.Neg(kids[0].num), kids[0].den} },
	})
	return fitted(names, r), api.OK
}

// fitted leaves out the variables that stand nowhere.
func fitted(names []string, r ratio) api.Fraction {
	used := make([]bool, len(names))
	for _, t := range slices.Concat(r.num.T, r.den.T) {
		for i, x := range t.E {
			used[i] = used[i] || x > 0
		}
	}
	var out api.Fraction
	for i, name := range names {
		if used[i] {
			out.Names = append(out.Names, name)
		}
	}
	without := func(f api.MPoly) api.MPoly {
		g := api.MPoly{N: len(out.Names)}
		for _, t := range f.T {
			e := make([]int, 0, g.N)
			for i, x := range t.E {
				if used[i] {
					e = append(e, x)
				}
			}
			g.T = append(g.T, api.Term{E: e, C: t.C})
		}
		return g
	}
	out.Num, out.Den = without(r.num), without(r.den)
	return out
}

// Back: see the chapter.
func Back(f api.Fraction) api.Expr {
	b := &builder{names: f.Names}
	num := b.poly(f.Num)
	if mpoly.Deg(f.Den) > 0 {
		b.add(api.NodeDiv, num, b.poly(f.Den))
	}
	return b.nodes
}

// builder makes an expression, kids first.
type builder struct {
	names []string
	nodes api.Expr
}

func (b *builder) add(kind int, kids ...int) int {
	b.nodes = append(b.nodes, api.Node{Kind: kind, Kids: kids})
	return len(b.nodes) - 1
}

// number is a number from 0 on; one of too many digits is put together of shorter ones.
func (b *builder) number(a api.Int) int {
	if len(digits.Text(a)) <= api.MaxDigits {
		b.nodes = append(b.nodes, api.Node{Kind: api.NodeNum, Num: a})
		return len(b.nodes) - 1
	}
	base, _ := whole.Pow(whole.Of(10), api.MaxDigits-1)
	high, low, _ := whole.DivMod(a, base)
	top := b.number(high)
	shifted := b.add(api.NodeMul, top, b.number(base))
	return b.add(api.NodeAdd, shifted, b.number(low))
}

// poly is a sum of terms.
func (b *builder) poly(f api.MPoly) int {
	if len(f.T) == 0 {
		return b.number(api.Int{})
	}
	sum := 0
	for i, t := range f.T {
		term := b.term(t)
		neg := frac.Sign(t.C) < 0
		switch {
		case i == 0 && neg:
			sum = b.add(api.NodeNeg, term)
		case i == 0:
			sum = term
		case neg:
			sum = b.add(api.NodeSub, sum, term)
		default:
			sum = b.add(api.NodeAdd, sum, term)
		}
	}
	return sum
}

// term is a term without its sign.
func (b *builder) term(t api.Term) int {
	c := frac.Abs(t.C)
	at := -1
	times := func(part int) {
		if at >= 0 {
			part = b.add(api.NodeMul, at, part)
		}
		at = part
	}
	if !whole.Same(c.Num, whole.Of(1)) || slices.Max(append(slices.Clone(t.E), 0)) == 0 {
		times(b.number(c.Num))
	}
	for i, x := range t.E {
		if x == 0 {
			continue
		}
		b.nodes = append(b.nodes, api.Node{Kind: api.NodeVar, Name: b.names[i]})
		part := len(b.nodes) - 1
		if x > 1 {
			part = b.add(api.NodePow, part, b.number(whole.Of(x)))
		}
		times(part)
	}
	if !whole.Same(c.Den, whole.Of(1)) {
		at = b.add(api.NodeDiv, at, b.number(c.Den))
	}
	return at
}
