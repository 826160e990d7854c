package groebner

import (
	"algebrist/api"
	"algebrist/mpoly"
	"algebrist/qpoly"
)

// single is the basis in one variable: the gcd, taken of one polynomial after another. Bezout's polynomials stay short, where Buchberger's way lets numbers grow.
func single(l []api.MPoly) (api.Basis, api.Errno) {
	var g api.QPoly
	row := make([]api.QPoly, len(l))
	fs := make([]api.QPoly, len(l))
	for j, f := range l {
		fs[j], _ = mpoly.One(f, 0)
		if divides(g, fs[j]) {
			continue
		}
		w := qpoly.Gcd(g, fs[j])
		for i := range j {
			row[i] = qpoly.Mul(row[i], w.U)
		}
		g, row[j] = w.G, w.V
	}
	out := api.Basis{B: make([][]api.MPoly, len(l))}
	if len(g) == 0 {
		return out, api.OK
	}
	var err api.Errno
	as := func(q api.QPoly) api.MPoly {
		f, e := mpoly.Of(1, 0, q)
		if e != api.OK {
			err = e
			return api.MPoly{N: 1}
		}
		return f
	}
	out.G = []api.MPoly{as(g)}
	out.A = [][]api.MPoly{nil}
	for j, f := range fs {
		out.A[0] = append(out.A[0], as(row[j]))
		q, _, _ := qpoly.DivMod(f, g)
		out.B[j] = []api.MPoly{as(q)}
	}
	if err != api.OK || !shortRow(out.A[0], l) {
		return api.Basis{}, api.ErrRange
	}
	return out, api.OK
}

func divides(g, f api.QPoly) bool {
	if len(g) == 0 {
		return len(f) == 0
	}
	_, r, _ := qpoly.DivMod(f, g)
	return len(r) == 0
}
