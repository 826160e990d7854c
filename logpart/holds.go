package logpart

import (
	"slices"

	"algebrist/api"
	"algebrist/field"
	"algebrist/frac"
	"algebrist/qpoly"
	"algebrist/ratfun"
	"algebrist/whole"
)

// Holds says whether these are the logarithms.
func Holds(h api.RatFun, l []api.Log) bool {
	if !ratfun.Right(h) || !isProper(h) || slices.ContainsFunc(l, func(x api.Log) bool { return !mayBe(x) }) {
		return false
	}
	return byResidues(h, l) || byValues(h, l)
}

func mayBe(x api.Log) bool {
	if !field.Right(x.Q) || frac.Sign(x.Q[0]) == 0 || len(x.S) < 2 {
		return false
	}
	if slices.ContainsFunc(x.S, func(c api.QPoly) bool { return !qpoly.Right(c) || qpoly.Deg(c) >= qpoly.Deg(x.Q) }) {
		return false
	}
	top := x.S[len(x.S)-1]
	return len(top) == 1 && frac.Same(top[0], frac.Whole(whole.Of(1)))
}

// byResidues is quick, and enough, but not needed: all S divide d, and a - z d', so that each root of an S is one of d at which the residue is z; no z stands twice; and there are as many roots as d has.
func byResidues(h api.RatFun, l []api.Log) bool {
	left := qpoly.Deg(h.Den)
	slope := qpoly.Diff(h.Den)
	for i, x := range l {
		left -= qpoly.Deg(x.Q) * (len(x.S) - 1)
		if left < 0 || slices.ContainsFunc(l[:i], func(y api.Log) bool { return qpoly.Deg(qpoly.Gcd(x.Q, y.Q).G) > 0 }) {
			return false
		}
		z := api.QPoly{frac.Whole(api.Int{}), frac.Whole(whole.Of(-1))}
		residue := field.FReduce(x.Q, times(constants(slope), z))
		residue = field.FAdd(x.Q, residue, field.FReduce(x.Q, constants(h.Num)))
		for _, f := range []api.FPoly{field.FReduce(x.Q, constants(h.Den)), residue} {
			if _, r, e := field.FRem(x.Q, f, x.S); e != api.OK || len(r) != 0 {
				return false
			}
		}
	}
	return left == 0
}

func times(f []api.QPoly, a api.QPoly) []api.QPoly {
	var out []api.QPoly
	for _, c := range f {
		out = append(out, qpoly.Mul(c, a))
	}
	return out
}

// byValues compares values at so many places that both sides, whose denominators' degrees are known, can't be two functions.
func byValues(h api.RatFun, l []api.Log) bool {
	need := qpoly.Deg(h.Den)
	for _, x := range l {
		need += qpoly.Deg(x.Q) * (len(x.S) - 1)
	}
	for at := 0; need > 0; at++ {
		place := frac.Whole(whole.Of(at))
		v, e := ratfun.Value(h, place)
		if e != api.OK {
			continue
		}
		good := true
		for _, x := range l {
			d, ok := derivative(x, place)
			good = good && ok
			v = frac.Sub(v, d)
		}
		if !good {
			continue
		}
		if frac.Sign(v) != 0 {
			return false
		}
		need--
	}
	return true
}

// derivative is the value of a logarithm's derivative: the trace of z S' by S; not told, where an S is 0.
func derivative(x api.Log, place api.Rat) (api.Rat, bool) {
	at := func(f api.FPoly) api.QPoly {
		var sum api.QPoly
		for _, c := range slices.Backward(f) {
			sum = qpoly.Add(qpoly.Scale(sum, place), c)
		}
		return sum
	}
	inv, _, e := field.Inv(x.Q, at(x.S))
	if e != api.OK {
		return frac.Whole(api.Int{}), false
	}
	z := api.QPoly{frac.Whole(api.Int{}), frac.Whole(whole.Of(1))}
	return trace(x.Q, field.Mul(x.Q, field.Mul(x.Q, z, at(field.FDiff(x.S))), inv)), true
}

// trace is the sum of a's values at all roots of q: of each power of z by Newton's identities.
func trace(q, a api.QPoly) api.Rat {
	n := qpoly.Deg(q)
	sums := []api.Rat{frac.Whole(whole.Of(n))}
	out := frac.Whole(api.Int{})
	for k, c := range a {
		if k > 0 {
			s := frac.Mul(frac.Whole(whole.Of(-k)), q[n-k])
			for i := 1; i < k; i++ {
				s = frac.Sub(s, frac.Mul(q[n-i], sums[k-i]))
			}
			sums = append(sums, s)
		}
		out = frac.Add(out, frac.Mul(c, sums[k]))
	}
	return out
}
