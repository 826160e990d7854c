package zassen

import (
	"cmp"
	"iter"
	"slices"
)

// many is so many factors that going over all choices would take too long.
const many = 24

// half is a choice of one half of the factors, and the sum of its traces.
type half struct{ sum, choice uint64 }

// halves are all choices, none too, of the factors from a place on, up to another one.
func (x pool) halves(from, to int) []half {
	out := []half{{}}
	for i := from; i < to; i++ {
		for _, h := range out {
			out = append(out, half{h.sum + x.traces[i], h.choice | 1<<uint(i)})
		}
	}
	return out
}

// meeting yields what choices of all sizes from a place on yield, without going over all: choices of the one half are put in order by their sums, so that for each one of the other half those are found whose sum with it is near enough to 0.
func (x pool) meeting(from int) iter.Seq[uint64] {
	return func(yield func(uint64) bool) {
		mid := (from + len(x.l)) / 2
		left := x.halves(from, mid)
		slices.SortFunc(left, func(a, b half) int { return cmp.Compare(a.sum, b.sum) })
		for _, r := range x.halves(mid, len(x.l)) {
			low := -x.slack - r.sum
			at, _ := slices.BinarySearchFunc(left, low, func(h half, s uint64) int { return cmp.Compare(h.sum, s) })
			// Behind the greatest sum the least one comes again.
			for k := range left {
				l := left[(at+k)%len(left)]
				if l.sum-low > 2*x.slack {
					break
				}
				if choice := l.choice | r.choice; choice != 0 && !yield(choice) {
					return
				}
			}
		}
	}
}

// all yields all choices from a place on that may be images of a divisor.
func (x pool) all(from int) iter.Seq[uint64] {
	if len(x.l)-from >= many && x.slack < 1<<62 {
		return x.meeting(from)
	}
	return func(yield func(uint64) bool) {
		for size := 1; from+size <= len(x.l); size++ {
			for choice := range x.choices(from, size) {
				if !yield(choice) {
					return
				}
			}
		}
	}
}
