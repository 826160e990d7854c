package isolate

import (
	"algebrist/api"
	"algebrist/frac"
	"algebrist/signs"
	"algebrist/whole"
	"algebrist/zpoly"
)

// within is intervals of the roots of a square-free polynomial above lo and below hi, by Descartes' rule: an interval is brought to that from 0 to 1, and halved, till its transformed coefficients change their sign once at most.
func within(core api.ZPoly, lo, hi api.Rat) []api.Interval {
	x := search{core: core, lo: lo, width: frac.Sub(hi, lo)}
	x.walk(onUnit(core, lo, hi), whole.Of(0), 0)
	for i, y := range x.found {
		x.found[i] = x.freed(y)
	}
	return x.found
}

type search struct {
	core      api.ZPoly
	lo, width api.Rat
	found     []api.Interval
}

// onUnit is, from 0 to 1, what f is from lo to hi, times a number above 0.
func onUnit(f api.ZPoly, lo, hi api.Rat) api.ZPoly {
	den := whole.Mul(lo.Den, hi.Den)
	low, high := whole.Mul(lo.Num, hi.Den), whole.Mul(hi.Num, lo.Den)
	scaled := make(api.ZPoly, len(f))
	power := whole.Of(1)
	for i := len(f) - 1; i >= 0; i-- {
		scaled[i] = whole.Mul(f[i], power)
		power = whole.Mul(power, den)
	}
	return zpoly.Compose(scaled, api.ZPoly{low, whole.Sub(high, low)})
}

// walk looks at the part of the number c of 2^k parts; p is what is there, from 0 to 1, without roots at the ends that were found.
func (x *search) walk(p api.ZPoly, c api.Int, k int) {
	switch Descartes(shift(zpoly.Reverse(p))) {
	case 0:
		return
	case 1:
		if whole.Sign(p[0]) != 0 {
			x.found = append(x.found, api.Interval{Lo: x.place(c, k), Hi: x.place(whole.Add(c, whole.Of(1)), k)})
			return
		}
	}
	left := halved(p)
	right := shift(left)
	twice := whole.Add(c, c)
	mid := whole.Add(twice, whole.Of(1))
	isRoot := whole.Sign(right[0]) == 0
	if isRoot {
		right = right[1:]
		left, _ = zpoly.Exact(left, api.ZPoly{whole.Of(-1), whole.Of(1)})
	}
	x.walk(left, twice, k+1)
	if isRoot {
		at := x.place(mid, k+1)
		x.found = append(x.found, api.Interval{Lo: at, Hi: at})
	}
	x.walk(right, mid, k+1)
}

// place is lo and c of 2^k parts of the width.
func (x *search) place(c api.Int, k int) api.Rat {
	den := make([]uint32, k/32+1)
	den[k/32] = 1 << uint(k%32)
	part, _ := frac.Of(c, api.Int{Mag: den})
	return frac.Add(x.lo, frac.Mul(part, x.width))
}

// halved is p of x/2, times a power of 2.
func halved(p api.ZPoly) api.ZPoly {
	out := make(api.ZPoly, len(p))
	power := whole.Of(1)
	for i := len(p) - 1; i >= 0; i-- {
		out[i] = whole.Mul(p[i], power)
		power = whole.Add(power, power)
	}
	return out
}

// shift is p of x + 1.
func shift(p api.ZPoly) api.ZPoly {
	out := append(api.ZPoly(nil), p...)
	for low := range out {
		for i := len(out) - 2; i >= low; i-- {
			out[i] = whole.Add(out[i], out[i+1])
		}
	}
	return out
}

// freed draws an interval in till no root of the core is at its ends.
func (x *search) freed(y api.Interval) api.Interval {
	if isPoint(y) {
		return y
	}
	low, high := signs.At(x.core, y.Lo) == 0, signs.At(x.core, y.Hi) == 0
	if !low && !high {
		return y
	}
	rest := x.core
	if low {
		rest = without(rest, y.Lo)
	}
	if high {
		rest = without(rest, y.Hi)
	}
	return narrow(rest, y, func(z api.Interval) bool {
		return !(low && frac.Same(z.Lo, y.Lo)) && !(high && frac.Same(z.Hi, y.Hi))
	})
}

// without is f without its root a.
func without(f api.ZPoly, a api.Rat) api.ZPoly {
	q, _ := zpoly.Exact(f, api.ZPoly{whole.Neg(a.Num), a.Den})
	return q
}
