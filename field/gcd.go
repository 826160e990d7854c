package field

import (
	"algebrist/api"
	"algebrist/qpoly"
)

// pair is two polynomials over a factor of m, whose gcd is sought.
type pair struct {
	m    api.QPoly
	f, g api.FPoly
}

// pop takes the last one from a stack.
func pop[T any](stack *[]T) T {
	n := len(*stack) - 1
	top := (*stack)[n]
	*stack = (*stack)[:n]
	return top
}

// FGcd is the gcd, over factors that multiply to m.
func FGcd(m api.QPoly, f, g api.FPoly) ([]api.Branch, api.Errno) {
	var out []api.Branch
	stack := []pair{{m, f, g}}
	for len(stack) > 0 {
		x := pop(&stack)
		if len(x.g) == 0 {
			x.f, x.g = x.g, x.f
		}
		if len(x.g) == 0 {
			out = append(out, api.Branch{M: x.m})
			continue
		}
		// A leading coefficient without an inverse tells a factor of m: both are gone on with apart.
		inv, d, e := Inv(x.m, x.g[len(x.g)-1])
		if e != api.OK {
			other, _, _ := qpoly.DivMod(x.m, d)
			stack = append(stack, x.over(d), x.over(qpoly.Monic(other)))
			continue
		}
		monic := make(api.FPoly, len(x.g))
		for i, c := range x.g {
			monic[i] = Mul(x.m, c, inv)
		}
		monic[len(monic)-1] = api.QPoly{one()}
		if len(x.f) == 0 {
			out = append(out, api.Branch{M: x.m, G: monic})
			continue
		}
		_, r, _ := FRem(x.m, x.f, monic)
		stack = append(stack, pair{x.m, monic, r})
	}
	return out, api.OK
}

// over is the pair over a factor.
func (x pair) over(m api.QPoly) pair {
	return pair{m, FReduce(m, x.f), FReduce(m, x.g)}
}
