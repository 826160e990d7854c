package zassen

import (
	"iter"
	"math/bits"

	"algebrist/api"
	"algebrist/bound"
	"algebrist/degrees"
	"algebrist/nat"
	"algebrist/ppoly"
	"algebrist/prime"
	modular "algebrist/split"
	"algebrist/whole"
	"algebrist/zpoly"
)

func nextPrime(p uint32) uint32 {
	q, _ := prime.Next(uint64(p))
	return uint32(q)
}

// monicFactors is the monic factors of an image without a square.
func monicFactors(f api.ZPoly, p uint32) []api.PPoly {
	_, monic := ppoly.Monic(ppoly.From(p, f))
	parts, _ := degrees.Parts(monic)
	var out []api.PPoly
	for i, part := range parts {
		l, _ := modular.Equal(part, i+1, 0)
		out = append(out, l...)
	}
	return out
}

// pool is lifted factors of f modulo m, of which choices are tried.
//
// What a choice stands for has the leading coefficient of f, so the one behind it is the sum of the roots times that, turned. Roots are bounded; the sum modulo m, of a wrong choice, most often isn't. So traces keep that coefficient of each factor, as a part of m in 64 bits, and a choice whose sum is farther from 0 than slack is passed by.
type pool struct {
	f      api.ZPoly
	m      api.Int
	l      []api.ZPoly
	traces []uint64
	slack  uint64
}

func newPool(f api.ZPoly, x api.Lift) pool {
	m, _ := whole.Pow(whole.Of(int(x.P)), x.K)
	return filled(f, m, x.L)
}

func filled(f api.ZPoly, m api.Int, l []api.ZPoly) pool {
	x := pool{f: f, m: m, l: l}
	for _, g := range l {
		t := whole.Mul(zpoly.Lead(f), g[len(g)-2])
		_, t, _ = whole.DivMod(t, m)
		x.traces = append(x.traces, x.part(t))
	}
	radius, _ := bound.Roots(f)
	most := whole.Mul(whole.Mul(zpoly.Lead(f), radius), whole.Of(zpoly.Deg(f)))
	x.slack = 1 << 62
	if whole.Cmp(whole.Mul(most, whole.Of(8)), m) < 0 {
		// Each trace is rounded down: as many units more as there may be factors.
		x.slack = x.part(most) + 2 + uint64(len(l))
	}
	return x
}

// part is 2^64 a / m, rounded down; a is from 0 to below m.
func (x pool) part(a api.Int) uint64 {
	q, _, _ := whole.DivMod(api.Int{Mag: nat.Shl(a.Mag, 64)}, x.m)
	n, _ := nat.Uint(q.Mag)
	return n
}

// near says whether a sum of traces is near enough to 0, from either side.
func (x pool) near(sum uint64) bool {
	return x.slack >= 1<<62 || sum+x.slack <= 2*x.slack
}

// choices yields, as bits, those of so many factors from a place on that may be images of a divisor.
func (x pool) choices(from, size int) iter.Seq[uint64] {
	return func(yield func(uint64) bool) {
		var walk func(at, left int, choice, sum uint64) bool
		walk = func(at, left int, choice, sum uint64) bool {
			if left == 0 {
				return !x.near(sum) || yield(choice)
			}
			for ; at+left <= len(x.l); at++ {
				if !walk(at+1, left-1, choice|1<<uint(at), sum+x.traces[at]) {
					return false
				}
			}
			return true
		}
		walk(from, size, 0, 0)
	}
}

// divisor is the divisor of f that a choice stands for, if it is one.
func (x pool) divisor(choice uint64) (api.ZPoly, bool) {
	lead := zpoly.Lead(x.f)
	if last := x.f[0]; whole.Sign(last) != 0 {
		// Quickly: the last coefficient, times at most lead, divides that of f times lead.
		c := lead
		for rest := choice; rest != 0; rest &= rest - 1 {
			_, c, _ = whole.DivMod(whole.Mul(c, x.l[bits.TrailingZeros64(rest)][0]), x.m)
		}
		c, _ = whole.Symmetric(c, x.m)
		if _, e := whole.Exact(whole.Mul(lead, last), c); e != api.OK {
			return nil, false
		}
	}
	g := zpoly.Const(lead)
	for rest := choice; rest != 0; rest &= rest - 1 {
		g = x.reduce(zpoly.Mul(g, x.l[bits.TrailingZeros64(rest)]))
	}
	g = zpoly.Primitive(g)
	_, e := zpoly.Exact(x.f, g)
	return g, e == api.OK
}

func (x pool) reduce(f api.ZPoly) api.ZPoly {
	out := make(api.ZPoly, len(f))
	for i, a := range f {
		out[i], _ = whole.Symmetric(a, x.m)
	}
	return zpoly.Add(out, nil)
}

// without is the pool of what is left, when a choice's divisor is taken out.
func (x pool) without(choice uint64, g api.ZPoly) pool {
	var l []api.ZPoly
	for i, h := range x.l {
		if choice>>uint(i)&1 == 0 {
			l = append(l, h)
		}
	}
	f, _ := zpoly.Exact(x.f, g)
	return filled(f, x.m, l)
}
