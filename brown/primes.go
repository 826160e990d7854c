package brown

import (
	"slices"

	"algebrist/api"
	"algebrist/lehmer"
	"algebrist/modp"
	"algebrist/prime"
	"algebrist/whole"
)

// byPrimes is the gcd of two primitive polynomials in n variables, put together of images till it divides both.
func byPrimes(a, b []term, n int) []term {
	lead := lehmer.GcdInt(a[0].c, b[0].c)
	var sum []term
	all := whole.Of(1)
	var seed uint64
	for p := next(1 << 30); ; p = next(p) {
		unit := modp.From(p, lead)
		if unit == 0 {
			continue
		}
		var image []small
		image, seed = gcdOver(imageOf(a, p), imageOf(b, p), n, p, seed)
		if image[0].key == 0 {
			return []term{{0, whole.Of(1)}}
		}
		// Of images those with the least leading monomial are right.
		if len(sum) > 0 && image[0].key > sum[0].key {
			continue
		}
		if len(sum) > 0 && image[0].key < sum[0].key {
			sum, all = nil, whole.Of(1)
		}
		grown := join(sum, all, image, p, unit)
		all = whole.Mul(all, whole.Of(int(p)))
		if len(sum) > 0 && alike(grown, sum) {
			if d := primitive(sum); divides(d, a) && divides(d, b) {
				return d
			}
		}
		sum = grown
	}
}

func next(p uint32) uint32 {
	q, _ := prime.Next(uint64(p))
	return uint32(q)
}

// join is the terms next to 0 that are sum modulo all, and unit times the image over p.
func join(sum []term, all api.Int, image []small, p, unit uint32) []term {
	inv, _ := modp.Inv(p, modp.From(p, all))
	var out []term
	i := 0
	step := func(key int64, old api.Int, new uint32) {
		c := modp.Mul(p, inv, modp.Sub(p, new, modp.From(p, old)))
		n := int(c)
		if c > p/2 {
			n -= int(p)
		}
		grown := whole.Add(old, whole.Mul(all, whole.Of(n)))
		if whole.Sign(grown) != 0 {
			out = append(out, term{key, grown})
		}
	}
	for _, t := range image {
		for ; i < len(sum) && sum[i].key > t.key; i++ {
			step(sum[i].key, sum[i].c, 0)
		}
		old := api.Int{}
		if i < len(sum) && sum[i].key == t.key {
			old = sum[i].c
			i++
		}
		step(t.key, old, modp.Mul(p, unit, t.c))
	}
	for ; i < len(sum); i++ {
		step(sum[i].key, sum[i].c, 0)
	}
	return out
}

func alike(a, b []term) bool {
	return slices.EqualFunc(a, b, func(x, y term) bool { return x.key == y.key && whole.Same(x.c, y.c) })
}

// divides says whether d divides f, both primitive.
func divides(d, f []term) bool {
	most := reach(f)
	own := reach(d)
	left := slices.Clone(f)
	for len(left) > 0 {
		key := left[0].key - d[0].key
		if !fits(left[0].key, d[0].key) || !fits(most, key) || !fits(most-key, own) {
			return false
		}
		c, e := whole.Exact(left[0].c, d[0].c)
		if e != api.OK {
			return false
		}
		left = less(left, c, key, d)
	}
	return true
}

// reach is the greatest exponents of all variables.
func reach(f []term) int64 {
	var most int64
	for _, t := range f {
		for s := 0; s < field*api.MaxVars; s += field {
			if top := t.key >> s & (1<<field - 1); top > most>>s&(1<<field-1) {
				most = most&^((1<<field-1)<<s) | top<<s
			}
		}
	}
	return most
}

// fits says whether the monomial b divides a; their exponents are below half of what a field takes.
func fits(a, b int64) bool {
	const tops = 0x808080808080
	return ((a|tops)-b)&tops == tops
}

// less is f less c times a monomial times g.
func less(f []term, c api.Int, key int64, g []term) []term {
	out := make([]term, 0, len(f)+len(g))
	i := 0
	for _, t := range g {
		k := t.key + key
		for ; i < len(f) && f[i].key > k; i++ {
			out = append(out, f[i])
		}
		x := whole.Neg(whole.Mul(c, t.c))
		if i < len(f) && f[i].key == k {
			x = whole.Add(f[i].c, x)
			i++
		}
		if whole.Sign(x) != 0 {
			out = append(out, term{k, x})
		}
	}
	return append(out, f[i:]...)
}
