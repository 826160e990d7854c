package realalg

import (
	"algebrist/api"
	"algebrist/frac"
	"algebrist/isolate"
	"algebrist/qpoly"
	"algebrist/signs"
	"algebrist/subres"
	"algebrist/whole"
	"algebrist/yun"
	"algebrist/zpoly"
)

// place is an interval with a root of f, at whose ends the signs differ.
type place struct {
	api.Interval
	f   api.ZPoly
	low int // the sign at Lo
}

func placeOf(a api.Alg) *place {
	if r, ok := Rational(a); ok {
		return placed(a.M, api.Interval{Lo: r, Hi: r})
	}
	x, _ := isolate.Index(a.M, a.K)
	return placed(a.M, x)
}

func placed(f api.ZPoly, x api.Interval) *place {
	return &place{Interval: x, f: f, low: signs.At(f, x.Lo)}
}

func (x *place) halve() {
	if frac.Same(x.Lo, x.Hi) {
		return
	}
	mid := frac.Mul(frac.Add(x.Lo, x.Hi), api.Rat{Num: whole.Of(1), Den: whole.Of(2)})
	switch signs.At(x.f, mid) {
	case 0:
		x.Lo, x.Hi = mid, mid
	case x.low:
		x.Lo = mid
	default:
		x.Hi = mid
	}
}

// spread is between what f's values on an interval are, by Horner's way.
func spread(f api.ZPoly, x api.Interval) (low, high api.Rat) {
	out := api.Interval{Lo: frac.Whole(api.Int{}), Hi: frac.Whole(api.Int{})}
	for i := len(f) - 1; i >= 0; i-- {
		c := frac.Whole(f[i])
		out = sumOf(productOf(out, x), api.Interval{Lo: c, Hi: c})
	}
	return out.Lo, out.Hi
}

func sumOf(x, y api.Interval) api.Interval {
	return api.Interval{Lo: frac.Add(x.Lo, y.Lo), Hi: frac.Add(x.Hi, y.Hi)}
}

func productOf(x, y api.Interval) api.Interval {
	first := frac.Mul(x.Lo, y.Lo)
	out := api.Interval{Lo: first, Hi: first}
	for _, p := range []api.Rat{frac.Mul(x.Lo, y.Hi), frac.Mul(x.Hi, y.Lo), frac.Mul(x.Hi, y.Hi)} {
		if frac.Cmp(p, out.Lo) < 0 {
			out.Lo = p
		}
		if frac.Cmp(p, out.Hi) > 0 {
			out.Hi = p
		}
	}
	return out
}

// Add is a sum.
func Add(a, b api.Alg) (api.Alg, api.Errno) {
	if tooGreat(a, b) {
		return api.Alg{}, api.ErrRange
	}
	return put(a, b, sumOf, func(x api.Int) api.ZPoly {
		// b's polynomial at x - y
		return zpoly.Compose(b.M, api.ZPoly{x, whole.Of(-1)})
	}), api.OK
}

// Mul is a product.
func Mul(a, b api.Alg) (api.Alg, api.Errno) {
	if tooGreat(a, b) {
		return api.Alg{}, api.ErrRange
	}
	if isZero(a) || isZero(b) {
		return Of(frac.Whole(api.Int{})), api.OK
	}
	return put(a, b, productOf, func(x api.Int) api.ZPoly {
		// b's polynomial at x / y, times y to the power of its degree
		n := zpoly.Deg(b.M)
		out := make(api.ZPoly, n+1)
		power := whole.Of(1)
		for i, c := range b.M {
			out[n-i] = whole.Mul(c, power)
			power = whole.Mul(power, x)
		}
		return out
	}), api.OK
}

func isZero(a api.Alg) bool { return zpoly.Deg(a.M) == 1 && whole.Sign(a.M[0]) == 0 }

func tooGreat(a, b api.Alg) bool {
	return zpoly.Deg(a.M)*zpoly.Deg(b.M) > sumSize || tooLong(a.M, sumBits) || tooLong(b.M, sumBits)
}

// put puts two numbers together: what comes is a root of the resultant, in y, of a's polynomial and what other tells of x.
func put(a, b api.Alg, join func(x, y api.Interval) api.Interval, other func(x api.Int) api.ZPoly) api.Alg {
	var xs, values []api.Rat
	for i := range zpoly.Deg(a.M)*zpoly.Deg(b.M) + 1 {
		x := whole.Of(i)
		xs = append(xs, frac.Whole(x))
		values = append(values, frac.Whole(subres.Resultant(a.M, other(x))))
	}
	through, _ := qpoly.Interpolate(xs, values)
	f, _ := qpoly.Clear(through)
	out, _ := root(f, which(f, placeOf(a), placeOf(b), join))
	return out
}

// which is the number of f's root that is put together of two: places are drawn in till just one of f's is left that meets theirs.
func which(f api.ZPoly, x, y *place, join func(x, y api.Interval) api.Interval) int {
	core := yun.Core(f)
	l, _ := isolate.All(f)
	left := map[int]*place{}
	for i, z := range l {
		left[i] = placed(core, z)
	}
	for {
		both := join(x.Interval, y.Interval)
		last := 0
		for i := range l {
			z := left[i]
			if z == nil {
				continue
			}
			if frac.Cmp(both.Hi, z.Lo) < 0 || frac.Cmp(z.Hi, both.Lo) < 0 {
				delete(left, i)
				continue
			}
			z.halve()
			last = i
		}
		if len(left) <= 1 {
			return last
		}
		x.halve()
		y.halve()
	}
}
