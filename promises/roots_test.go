package promises

import (
	"math/rand"
	"testing"

	"algebrist/api"
	"algebrist/frac"
	"algebrist/isolate"
	"algebrist/realalg"
	"algebrist/sturm"
	"algebrist/whole"
	"algebrist/zassen"
	"algebrist/zpoly"
)

// P5: chains, intervals, algebraic numbers and factors count the same roots.
func TestAllCountTheSameRoots(t *testing.T) {
	r := rand.New(rand.NewSource(4))
	for range 60 {
		f := zpoly.Mul(drawZ(r, 5, 9), zpoly.Mul(drawZ(r, 4, 5), drawZ(r, 3, 5)))
		if len(f) == 0 {
			continue
		}
		n, _ := sturm.All(f)
		l, _ := isolate.All(f)
		if len(l) != n || !isolate.Holds(f, l) {
			t.Fatal("intervals", f)
		}
		sum := 0
		x, _, _ := zassen.Factor(f)
		for _, a := range x.L {
			m, _ := sturm.All(a.F)
			sum += m
		}
		if sum != n {
			t.Fatal("factors", f)
		}
		roots, _ := zassen.Rational(f)
		rational := 0
		var last api.Alg
		for k := range n {
			a, e := realalg.Root(f, k)
			if e != api.OK || !realalg.Right(a) || k > 0 && realalg.Cmp(last, a) >= 0 {
				t.Fatal("algebraic numbers", f, k)
			}
			if q, ok := realalg.Rational(a); ok {
				if !frac.Same(q, roots[rational]) {
					t.Fatal("rational roots", f)
				}
				rational++
			}
			last = a
		}
		if _, e := realalg.Root(f, n); e != api.ErrNone || rational != len(roots) {
			t.Fatal("a root too many", f)
		}
	}
}

// P5: algebraic numbers compute as numbers do.
func TestAlgebraicNumbersAreNumbers(t *testing.T) {
	r := rand.New(rand.NewSource(5))
	w := frac.Of
	tiny, _ := w(whole.Of(1), whole.Of(1<<40))
	for range 40 {
		f, g := drawZ(r, 4, 9), drawZ(r, 4, 9)
		a, e1 := realalg.Root(f, 0)
		b, e2 := realalg.Root(g, 0)
		if e1 != api.OK || e2 != api.OK || zpoly.Deg(a.M)*zpoly.Deg(b.M) > 12 {
			continue
		}
		s, e := realalg.Add(a, b)
		if e != api.OK {
			t.Fatal(e)
		}
		x, _ := realalg.Near(a, tiny)
		y, _ := realalg.Near(b, tiny)
		z, _ := realalg.Near(s, tiny)
		if frac.Cmp(frac.Add(x.Lo, y.Lo), z.Hi) > 0 || frac.Cmp(z.Lo, frac.Add(x.Hi, y.Hi)) > 0 {
			t.Fatal("sum", a, b)
		}
		if realalg.Cmp(s, a) != realalg.Sign(zp(0, 1), b) {
			t.Fatal("order", a, b)
		}
	}
}
