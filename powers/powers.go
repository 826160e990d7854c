// Package powers has powers of whole numbers without a limit of the exponent, as degrees have none.
package powers

import (
	"algebrist/api"
	"algebrist/whole"
)

// Of is a to the power n, n from 0 on.
func Of(a api.Int, n int) api.Int {
	if n == 0 {
		return whole.Of(1)
	}
	half := Of(a, n/2)
	out := whole.Mul(half, half)
	if n%2 == 1 {
		out = whole.Mul(out, a)
	}
	return out
}
