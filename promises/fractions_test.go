package promises

import (
	"math/rand"
	"testing"

	"algebrist/api"
	"algebrist/integral"
	"algebrist/logpart"
	"algebrist/qpoly"
	"algebrist/ratfun"
	"algebrist/series"
)

// P8: partial fractions add up; an integral's derivative is what was integrated; series come back.
func TestFractionsAndIntegrals(t *testing.T) {
	r := rand.New(rand.NewSource(8))
	for range 60 {
		den := qpoly.Mul(qpoly.From(drawZ(r, 4, 5)), qpoly.From(drawZ(r, 3, 5)))
		f, e := ratfun.New(qpoly.From(drawZ(r, 5, 9)), den)
		if e != api.OK {
			continue
		}
		a, e := ratfun.Split(f)
		if e != api.OK || !ratfun.Holds(f, a) {
			t.Fatal("split", f)
		}
		if g, e := ratfun.Join(a); e != api.OK || !ratfun.Same(f, g) {
			t.Fatal("join", f)
		}
		x, e := integral.Of(f)
		if e != api.OK || !integral.Holds(f, x) {
			t.Fatal("integral", f)
		}
		if h := ratfun.Sub(f, ratfun.Diff(x.R)); !logpart.Holds(h, x.L) {
			t.Fatal("derivative", f)
		}
		// A part at a time: the integrals of partial fractions have together the rational part of the whole.
		sum := api.RatFun{Den: qpoly.From(zp(1))}
		for _, p := range a.L {
			d := qpoly.From(zp(1))
			for range p.N {
				d = qpoly.Mul(d, p.Den)
			}
			g, _ := ratfun.New(p.Num, d)
			y, e := integral.Of(g)
			if e != api.OK {
				t.Fatal(e)
			}
			sum = ratfun.Add(sum, y.R)
		}
		w, _ := integral.Of(api.RatFun{Num: a.Whole, Den: qpoly.From(zp(1))})
		if !ratfun.Same(ratfun.Add(sum, w.R), x.R) {
			t.Fatal("parts", f)
		}
		m, k := max(0, qpoly.Deg(f.Num)), qpoly.Deg(f.Den)
		if s, e := series.Of(f, m+k+1); e == api.OK {
			if g, e := series.Pade(s, m, k); e != api.OK || !ratfun.Same(f, g) {
				t.Fatal("series", f)
			}
		}
	}
}
