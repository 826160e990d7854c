package brown

import (
	"slices"

	"algebrist/api"
	"algebrist/modp"
	"algebrist/ppoly"
	"algebrist/prime"
)

// small is a term over a prime.
type small struct {
	key int64
	c   uint32
}

func imageOf(f []term, p uint32) []small {
	var out []small
	for _, t := range f {
		if c := modp.From(p, t.c); c != 0 {
			out = append(out, small{t.key, c})
		}
	}
	return out
}

// group is what stands at a monomial of all variables but the last one: a polynomial in that.
type group struct {
	key int64
	f   api.PPoly
}

// gcdOver is the monic gcd of two, that aren't both 0, in n variables over a prime: most surely, as it hangs on draws.
func gcdOver(a, b []small, n int, p uint32, seed uint64) ([]small, uint64) {
	if n == 1 {
		return flat(ppoly.Gcd(dense(a, p), dense(b, p)).G), seed
	}
	x, c := split(a, p)
	y, d := split(b, p)
	if len(x) == 0 || len(y) == 0 {
		return monic(joined(append(x, y...), ppoly.Gcd(c, d).G), p), seed
	}
	both := ppoly.Gcd(c, d).G
	lead := ppoly.Gcd(x[0].f, y[0].f).G
	need := min(degree(x), degree(y)) + ppoly.Deg(lead) + 1
	var places []uint32
	var images [][]small
	for len(places) < need {
		var at uint32
		seed, at = prime.Next31(seed)
		at %= p
		unit := ppoly.Value(lead, at)
		if unit == 0 || slices.Contains(places, at) {
			continue
		}
		var image []small
		image, seed = gcdOver(valueAt(x, at), valueAt(y, at), n-1, p, seed)
		if image[0].key == 0 {
			return joined([]group{{0, constant(p)}}, both), seed
		}
		if len(images) > 0 && image[0].key > images[0][0].key {
			continue
		}
		if len(images) > 0 && image[0].key < images[0][0].key {
			places, images = nil, nil
		}
		places, images = append(places, at), append(images, scaled(image, unit, p))
	}
	h, _ := split(joined(through(places, images, p), constant(p)), p)
	return monic(joined(h, both), p), seed
}

func constant(p uint32) api.PPoly { return api.PPoly{P: p, C: []uint32{1}} }

// dense is a polynomial in one variable.
func dense(f []small, p uint32) api.PPoly {
	out := api.PPoly{P: p}
	if len(f) > 0 {
		out.C = make([]uint32, f[0].key+1)
	}
	for _, t := range f {
		out.C[t.key] = t.c
	}
	return out
}

func flat(f api.PPoly) []small {
	var out []small
	for i, c := range slices.Backward(f.C) {
		if c != 0 {
			out = append(out, small{int64(i), c})
		}
	}
	return out
}

// split is the groups of a polynomial without what divides all of them, and that.
func split(f []small, p uint32) ([]group, api.PPoly) {
	var out []group
	content := api.PPoly{P: p}
	for len(f) > 0 {
		key := f[0].key >> field
		k := 0
		var own []small
		for k < len(f) && f[k].key>>field == key {
			own = append(own, small{f[k].key & (1<<field - 1), f[k].c})
			k++
		}
		f = f[k:]
		g := dense(own, p)
		out = append(out, group{key, g})
		if ppoly.Deg(content) != 0 {
			content = ppoly.Gcd(content, g).G
		}
	}
	for i, g := range out {
		out[i].f, _, _ = ppoly.DivMod(g.f, content)
	}
	return out, content
}

// joined is groups times a polynomial in the last variable, as terms.
func joined(l []group, by api.PPoly) []small {
	var out []small
	for _, g := range l {
		for _, t := range flat(ppoly.Mul(g.f, by)) {
			out = append(out, small{g.key<<field | t.key, t.c})
		}
	}
	return out
}

// degree is the degree in the last variable.
func degree(l []group) int {
	most := 0
	for _, g := range l {
		most = max(most, ppoly.Deg(g.f))
	}
	return most
}

// valueAt has a number in the last variable's place.
func valueAt(l []group, at uint32) []small {
	var out []small
	for _, g := range l {
		if c := ppoly.Value(g.f, at); c != 0 {
			out = append(out, small{g.key, c})
		}
	}
	return out
}

func scaled(f []small, c, p uint32) []small {
	out := make([]small, len(f))
	for i, t := range f {
		out[i] = small{t.key, modp.Mul(p, t.c, c)}
	}
	return out
}

func monic(f []small, p uint32) []small {
	inv, _ := modp.Inv(p, f[0].c)
	return scaled(f, inv, p)
}

// through is the groups whose values at places are images.
func through(places []uint32, images [][]small, p uint32) []group {
	values := map[int64][]uint32{}
	var keys []int64
	for i, image := range images {
		for _, t := range image {
			if values[t.key] == nil {
				values[t.key] = make([]uint32, len(places))
				keys = append(keys, t.key)
			}
			values[t.key][i] = t.c
		}
	}
	slices.Sort(keys)
	slices.Reverse(keys)
	basis := lagrange(places, p)
	var out []group
	for _, key := range keys {
		f := api.PPoly{P: p}
		for i, v := range values[key] {
			f = ppoly.Add(f, ppoly.Scale(basis[i], v))
		}
		if len(f.C) > 0 {
			out = append(out, group{key, f})
		}
	}
	return out
}

// lagrange are the polynomials that are 1 at one place, and 0 at all others.
func lagrange(places []uint32, p uint32) []api.PPoly {
	all := constant(p)
	linear := func(a uint32) api.PPoly { return api.PPoly{P: p, C: []uint32{modp.Neg(p, a), 1}} }
	for _, a := range places {
		all = ppoly.Mul(all, linear(a))
	}
	var out []api.PPoly
	for _, a := range places {
		q, _, _ := ppoly.DivMod(all, linear(a))
		inv, _ := modp.Inv(p, ppoly.Value(q, a))
		out = append(out, ppoly.Scale(q, inv))
	}
	return out
}
