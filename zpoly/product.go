package zpoly

import (
	"algebrist/api"
	"algebrist/whole"
)

// short is the length up to which a product is made term by term.
const short = 24

// Mul is a product.
func Mul(f, g api.ZPoly) api.ZPoly {
	if len(f) == 0 || len(g) == 0 {
		return nil
	}
	// Long factors are halved: (a + b t)(c + d t) needs a c, b d, and (a + b)(c + d).
	var product func(f, g api.ZPoly) api.ZPoly
	product = func(f, g api.ZPoly) api.ZPoly {
		if min(len(f), len(g)) <= short {
			return school(f, g)
		}
		half := (max(len(f), len(g)) + 1) / 2
		a, b := cut(f, half)
		c, d := cut(g, half)
		low, high := product(a, c), product(b, d)
		mid := Sub(Sub(product(Add(a, b), Add(c, d)), low), high)
		return Add(Add(low, Shift(mid, half)), Shift(high, 2*half))
	}
	return trim(product(f, g))
}

func cut(f api.ZPoly, n int) (low, high api.ZPoly) {
	if len(f) <= n {
		return f, nil
	}
	return trim(f[:n]), f[n:]
}

func school(f, g api.ZPoly) api.ZPoly {
	if len(f) == 0 || len(g) == 0 {
		return nil
	}
	out := make(api.ZPoly, len(f)+len(g)-1)
	for i, a := range f {
		if whole.Sign(a) == 0 {
			continue
		}
		for j, b := range g {
			out[i+j] = whole.Add(out[i+j], whole.Mul(a, b))
		}
	}
	return out
}

// Exact is a quotient without a rest.
func Exact(f, g api.ZPoly) (api.ZPoly, api.Errno) {
	if len(g) == 0 {
		return nil, api.ErrZero
	}
	if len(f) == 0 {
		return nil, api.OK
	}
	if len(f) < len(g) {
		return nil, api.ErrNone
	}
	left := append(api.ZPoly(nil), f...)
	q := make(api.ZPoly, len(f)-len(g)+1)
	for i := len(q) - 1; i >= 0; i-- {
		c, e := whole.Exact(left[i+len(g)-1], Lead(g))
		if e != api.OK {
			return nil, api.ErrNone
		}
		q[i] = c
		takeFrom(left[i:], c, g)
	}
	if len(trim(left)) > 0 {
		return nil, api.ErrNone
	}
	return trim(q), api.OK
}

// takeFrom takes c g from what is left, in its place.
func takeFrom(left api.ZPoly, c api.Int, g api.ZPoly) {
	if whole.Sign(c) == 0 {
		return
	}
	for j, b := range g {
		left[j] = whole.Sub(left[j], whole.Mul(c, b))
	}
}

// Pseudo is a division with a power of the leading coefficient.
func Pseudo(f, g api.ZPoly) (q, r api.ZPoly, k int, e api.Errno) {
	if len(g) == 0 {
		return nil, nil, 0, api.ErrZero
	}
	k = max(0, len(f)-len(g)+1)
	lead := Lead(g)
	r = append(api.ZPoly(nil), f...)
	q = make(api.ZPoly, k)
	for i := k - 1; i >= 0; i-- {
		c := r[i+len(g)-1]
		for j := range q {
			q[j] = whole.Mul(q[j], lead)
		}
		q[i] = c
		for j := range i + len(g) {
			r[j] = whole.Mul(r[j], lead)
		}
		takeFrom(r[i:], c, g)
	}
	return trim(q), trim(r), k, api.OK
}
