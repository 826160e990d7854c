package matrix

import (
	"slices"

	"algebrist/api"
	"algebrist/euclid"
	"algebrist/frac"
	"algebrist/whole"
)

// grid is a matrix that is worked on: each row is multiplied by so much that its entries e are whole. Elimination is Bareiss': all entries stay minors, so each division by the pivot before is without a rest.
type grid struct {
	api.Mat
	e      []api.Int
	by     []api.Int
	last   api.Int // the last pivot
	turned bool    // were rows exchanged an odd number of times?
}

func cleared(a api.Mat) *grid {
	return gridOf(a.R, a.C, func(i, j int) api.Rat { return a.A[i*a.C+j] })
}

// gridOf is a grid of as many rows and columns, whose entries a function tells.
func gridOf(r, c int, at func(i, j int) api.Rat) *grid {
	g := &grid{Mat: api.Mat{R: r, C: c}, last: whole.Of(1)}
	for i := range r {
		den := whole.Of(1)
		for j := range c {
			den = euclid.Lcm(den, at(i, j).Den)
		}
		g.by = append(g.by, den)
		for j := range c {
			x := at(i, j)
			q, _ := whole.Exact(den, x.Den)
			g.e = append(g.e, whole.Mul(q, x.Num))
		}
	}
	return g
}

// evenly is a grid all of whose rows are multiplied by one number, and that.
func evenly(a api.Mat) (*grid, api.Int) {
	den := whole.Of(1)
	for _, x := range a.A {
		den = euclid.Lcm(den, x.Den)
	}
	all := frac.Whole(den)
	return gridOf(a.R, a.C, func(i, j int) api.Rat { return frac.Mul(all, a.A[i*a.C+j]) }), den
}

func (g *grid) row(i int) []api.Int { return g.e[i*g.C : (i+1)*g.C : (i+1)*g.C] }

// at is an entry of the reduced form.
func (g *grid) at(i, j int) api.Rat {
	q, _ := frac.Of(g.e[i*g.C+j], g.last)
	return q
}

// reduce brings the grid down, and, if it is to be whole, up too, so that all pivots are as the last one; the pivots' columns are told.
func (g *grid) reduce(up bool) []int {
	var pivots []int
	for col := 0; col < g.C && len(pivots) < g.R; col++ {
		k := len(pivots)
		i := k
		for i < g.R && whole.Sign(g.e[i*g.C+col]) == 0 {
			i++
		}
		if i == g.R {
			continue
		}
		if i != k {
			g.exchange(i, k)
			g.turned = !g.turned
		}
		if up {
			g.clearBelow(k, col, 0)
		} else {
			g.clearBelow(k, col, k+1)
		}
		pivots = append(pivots, col)
	}
	return pivots
}

func (g *grid) exchange(i, k int) {
	a, b := g.row(i), g.row(k)
	for j := range a {
		a[j], b[j] = b[j], a[j]
	}
}

// clearBelow makes a column 0 in all rows from a place on but that of the pivot, which becomes the last one.
func (g *grid) clearBelow(k, col, from int) {
	pivot := g.e[k*g.C+col]
	own := g.row(k)
	for i := from; i < g.R; i++ {
		if i == k {
			continue
		}
		row := g.row(i)
		factor := row[col]
		for j := range row {
			if whole.Sign(row[j]) == 0 && whole.Sign(own[j]) == 0 {
				continue
			}
			x := whole.Sub(whole.Mul(pivot, row[j]), whole.Mul(factor, own[j]))
			row[j], _ = whole.Exact(x, g.last)
		}
	}
	g.last = pivot
}

// diagonal brings an entry that isn't 0 to the k-th place of the diagonal of a symmetric grid, the same done to rows and columns; false, if from there on all are 0.
func (g *grid) diagonal(k int) bool {
	n := g.R
	for i := k; i < n; i++ {
		if whole.Sign(g.e[i*n+i]) != 0 {
			g.swapBoth(i, k)
			return true
		}
	}
	for i := k; i < n; i++ {
		for j := i + 1; j < n; j++ {
			if whole.Sign(g.e[i*n+j]) != 0 {
				g.addBoth(i, j)
				g.swapBoth(i, k)
				return true
			}
		}
	}
	return false
}

func (g *grid) swapBoth(i, k int) {
	if i == k {
		return
	}
	g.exchange(i, k)
	for r := range g.R {
		row := g.row(r)
		row[i], row[k] = row[k], row[i]
	}
}

// addBoth adds row j to row i, and column j to column i.
func (g *grid) addBoth(i, j int) {
	a, b := g.row(i), g.row(j)
	for c := range a {
		a[c] = whole.Add(a[c], b[c])
	}
	for r := range g.R {
		row := g.row(r)
		row[i] = whole.Add(row[i], row[j])
	}
}

// times is the square grid times another one.
func (g *grid) times(m []api.Int) []api.Int {
	n := g.R
	out := make([]api.Int, n*n)
	column := make([]api.Int, n)
	for j := range n {
		for i := range n {
			column[i] = m[i*n+j]
		}
		for i := range n {
			out[i*n+j] = dot(g.row(i), column)
		}
	}
	return out
}

func dot(a, b []api.Int) api.Int {
	var sum api.Int
	for i, x := range a {
		if whole.Sign(x) != 0 && whole.Sign(b[i]) != 0 {
			sum = whole.Add(sum, whole.Mul(x, b[i]))
		}
	}
	return sum
}

// Solve is what A x = b has.
func Solve(a api.Mat, b []api.Rat) (api.Linear, bool, api.Errno) {
	if len(b) != a.R {
		return api.Linear{}, false, api.ErrArg
	}
	g, pivots := solved(a, b)
	if len(pivots) > 0 && pivots[len(pivots)-1] == a.C {
		// A row that shows it is what the columns, turned, have: 0 of each of A's, 1 of b.
		turned := build(a.C+1, a.R, func(i, j int) api.Rat {
			if i < a.C {
				return a.A[j*a.C+i]
			}
			return b[j]
		})
		h, places := solved(turned, append(noughts(a.C), number(1)))
		return api.Linear{Y: h.solution(places)}, false, api.OK
	}
	return api.Linear{X: g.solution(pivots), K: g.kernel(pivots)}, true, api.OK
}

// solved is the reduced form of a matrix with a column more.
func solved(a api.Mat, b []api.Rat) (*grid, []int) {
	g := gridOf(a.R, a.C+1, func(i, j int) api.Rat {
		if j < a.C {
			return a.A[i*a.C+j]
		}
		return b[i]
	})
	return g, g.reduce(true)
}

func noughts(n int) []api.Rat {
	out := make([]api.Rat, n)
	for i := range out {
		out[i] = number(0)
	}
	return out
}

// solution is what the last column of a reduced form tells, with 0 where there is no pivot.
func (g *grid) solution(pivots []int) []api.Rat {
	x := noughts(g.C - 1)
	for i, col := range pivots {
		x[col] = g.at(i, g.C-1)
	}
	return x
}

// kernel is a basis of what the columns but the last one make 0.
func (g *grid) kernel(pivots []int) [][]api.Rat {
	var out [][]api.Rat
	for free := range g.C - 1 {
		if slices.Contains(pivots, free) {
			continue
		}
		k := noughts(g.C - 1)
		k[free] = number(1)
		for i, col := range pivots {
			k[col] = frac.Neg(g.at(i, free))
		}
		out = append(out, k)
	}
	return out
}

// Holds says whether it is a solution, or none.
func Holds(a api.Mat, b []api.Rat, w api.Linear, some bool) bool {
	if !Right(a) || len(b) != a.R || !allRight(b) || !allRight(w.X) || !allRight(w.Y) {
		return false
	}
	for _, k := range w.K {
		if !allRight(k) {
			return false
		}
	}
	if !some {
		return len(w.X) == 0 && len(w.K) == 0 && len(w.Y) == a.R && isZero(apply(Trans(a), w.Y)) && frac.Same(product(w.Y, b), number(1))
	}
	if len(w.Y) != 0 || len(w.X) != a.C || !slices.EqualFunc(apply(a, w.X), b, frac.Same) || len(w.K) != a.C-Rank(a) {
		return false
	}
	for _, k := range w.K {
		if len(k) != a.C || !isZero(apply(a, k)) {
			return false
		}
	}
	rows := build(len(w.K), a.C, func(i, j int) api.Rat { return w.K[i][j] })
	return Rank(rows) == len(w.K)
}

func allRight(l []api.Rat) bool {
	return !slices.ContainsFunc(l, func(x api.Rat) bool { return !frac.Right(x) })
}

func isZero(l []api.Rat) bool {
	return !slices.ContainsFunc(l, func(x api.Rat) bool { return frac.Sign(x) != 0 })
}

// apply is a matrix times a column.
func apply(a api.Mat, x []api.Rat) []api.Rat {
	var out []api.Rat
	for i := range a.R {
		out = append(out, product(a.A[i*a.C:(i+1)*a.C], x))
	}
	return out
}

func product(a, b []api.Rat) api.Rat {
	sum := number(0)
	for i, x := range a {
		if frac.Sign(x) != 0 && frac.Sign(b[i]) != 0 {
			sum = frac.Add(sum, frac.Mul(x, b[i]))
		}
	}
	return sum
}
