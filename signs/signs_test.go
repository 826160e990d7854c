package signs

import (
	"testing"

	"algebrist/api"
	"algebrist/frac"
	"algebrist/whole"
)

func rat(n, d int) api.Rat {
	a, _ := frac.Of(whole.Of(n), whole.Of(d))
	return a
}

func TestSigns(t *testing.T) {
	f := api.ZPoly{whole.Of(-2), whole.Of(0), whole.Of(1), whole.Of(3)} // 3 x^3 + x^2 - 2
	for n := -20; n <= 20; n++ {
		for d := 1; d < 9; d++ {
			v := 3*n*n*n + n*n*d - 2*d*d*d
			if got := At(f, rat(n, d)); got != min(1, max(-1, v)) {
				t.Error(n, d, got)
			}
		}
	}
	if At(nil, rat(1, 2)) != 0 || At(api.ZPoly{whole.Of(-7)}, rat(1, 2)) != -1 {
		t.Error("constants")
	}
	g := api.ZPoly{whole.Of(-1), whole.Of(2)}
	for i, x := range []struct {
		lo, hi api.Rat
		want   bool
	}{{rat(0, 1), rat(1, 1), true}, {rat(1, 1), rat(2, 1), false}, {rat(1, 2), rat(1, 2), true}, {rat(1, 3), rat(1, 3), false}} {
		if Has(g, api.Interval{Lo: x.lo, Hi: x.hi}) != x.want {
			t.Error(i)
		}
	}
}
