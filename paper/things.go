package paper

import (
	"algebrist/api"
	"algebrist/frac"
	"algebrist/matrix"
	"algebrist/mono"
	"algebrist/mpoly"
	"algebrist/ppoly"
	"algebrist/qpoly"
	"algebrist/whole"
	"algebrist/zpoly"
)

// small is the greatest number of Go that is written, by its size.
const small = 1 << 62

// each is the list of the trees of all of some things.
func each[T any](l []T, of func(T) api.Tree) api.Tree {
	out := make([]api.Tree, len(l))
	for i, x := range l {
		out[i] = of(x)
	}
	return List(out...)
}

// OfRat: see the chapter.
func OfRat(a api.Rat) api.Tree { return List(Num(a.Num), Num(a.Den)) }

// OfZ: see the chapter.
func OfZ(f api.ZPoly) api.Tree { return each(f, Num) }

// OfQ: see the chapter.
func OfQ(f api.QPoly) api.Tree { return each(f, OfRat) }

// OfP: see the chapter.
func OfP(f api.PPoly) api.Tree {
	return List(Small(int(f.P)), each(f.C, func(c uint32) api.Tree { return Small(int(c)) }))
}

// OfMat: see the chapter.
func OfMat(a api.Mat) api.Tree { return List(Small(a.R), Small(a.C), OfRats(a.A)) }

// OfRats: see the chapter.
func OfRats(l []api.Rat) api.Tree { return each(l, OfRat) }

// OfOrder: see the chapter.
func OfOrder(o api.Order) api.Tree { return List(Small(o.Kind), Small(o.Cut)) }

// OfM: see the chapter.
func OfM(f api.MPoly) api.Tree {
	parts := []api.Tree{Small(f.N)}
	for _, t := range f.T {
		parts = append(parts, List(each(t.E, Small), OfRat(t.C)))
	}
	return List(parts...)
}

// OfMs: see the chapter.
func OfMs(l []api.MPoly) api.Tree { return each(l, OfM) }

// view is a leaf of a tree that may be, as the root of what hangs on it.
type view struct {
	t  api.Tree
	at int
}

// rooted is a tree's root; false, if it may not be.
func rooted(t api.Tree) (view, bool) { return view{t, len(t) - 1}, Right(t) }

func (x view) leaf() api.Leaf { return x.t[x.at] }

// list is the kids of a list.
func (x view) list() ([]view, bool) {
	if x.leaf().Kind != api.LeafList {
		return nil, false
	}
	out := []view{}
	for _, k := range x.leaf().Kids {
		out = append(out, view{x.t, k})
	}
	return out, true
}

// many is the kids of a list of so many.
func (x view) many(n int) ([]view, bool) {
	l, ok := x.list()
	return l, ok && len(l) == n
}

func (x view) num() (api.Int, bool) {
	if x.leaf().Kind != api.LeafNum {
		return api.Int{}, false
	}
	return x.leaf().Num, true
}

func (x view) small() (int, bool) {
	a, ok := x.num()
	if !ok {
		return 0, false
	}
	n, ok := whole.Int(a)
	if !ok || n < -small || n > small {
		return 0, false
	}
	return n, true
}

func (x view) rat() (api.Rat, bool) {
	l, ok := x.many(2)
	if !ok {
		return api.Rat{}, false
	}
	num, ok := l[0].num()
	den, good := l[1].num()
	a := api.Rat{Num: num, Den: den}
	return a, ok && good && frac.Right(a)
}

// all is what all kids of a list are.
func all[T any](x view, to func(view) (T, bool)) ([]T, bool) {
	l, ok := x.list()
	if !ok {
		return nil, false
	}
	var out []T
	for _, k := range l {
		a, ok := to(k)
		if !ok {
			return nil, false
		}
		out = append(out, a)
	}
	return out, true
}

// element is a number below 2^32.
func (x view) element() (uint32, bool) {
	n, ok := x.small()
	return uint32(n), ok && n >= 0 && n < 1<<32
}

func (x view) ppoly() (api.PPoly, bool) {
	l, ok := x.many(2)
	if !ok {
		return api.PPoly{}, false
	}
	p, ok := l[0].element()
	c, good := all(l[1], view.element)
	f := api.PPoly{P: p, C: c}
	return f, ok && good && ppoly.Right(f)
}

func (x view) mat() (api.Mat, bool) {
	l, ok := x.many(3)
	if !ok {
		return api.Mat{}, false
	}
	r, ok1 := l[0].small()
	c, ok2 := l[1].small()
	a, ok3 := all(l[2], view.rat)
	m := api.Mat{R: r, C: c, A: a}
	return m, ok1 && ok2 && ok3 && matrix.Right(m)
}

func (x view) term() (api.Term, bool) {
	l, ok := x.many(2)
	if !ok {
		return api.Term{}, false
	}
	e, ok := all(l[0], view.small)
	c, good := l[1].rat()
	return api.Term{E: e, C: c}, ok && good
}

func (x view) mpoly() (api.MPoly, bool) {
	l, ok := x.list()
	if !ok || len(l) == 0 {
		return api.MPoly{}, false
	}
	n, ok := l[0].small()
	if !ok {
		return api.MPoly{}, false
	}
	f := api.MPoly{N: n}
	for _, k := range l[1:] {
		t, ok := k.term()
		if !ok {
			return api.MPoly{}, false
		}
		f.T = append(f.T, t)
	}
	return f, mpoly.Right(f)
}

// thing is what a tree is of; the zero value, if it is of none.
func thing[T any](t api.Tree, to func(view) (T, bool)) (T, bool) {
	var none T
	x, ok := rooted(t)
	if !ok {
		return none, false
	}
	a, ok := to(x)
	if !ok {
		return none, false
	}
	return a, true
}

// ToNum: see the chapter.
func ToNum(t api.Tree) (api.Int, bool) { return thing(t, view.num) }

// ToSmall: see the chapter.
func ToSmall(t api.Tree) (int, bool) { return thing(t, view.small) }

// ToWord: see the chapter.
func ToWord(t api.Tree) (string, bool) {
	return thing(t, func(x view) (string, bool) { return x.leaf().Word, x.leaf().Kind == api.LeafWord })
}

// ToRat: see the chapter.
func ToRat(t api.Tree) (api.Rat, bool) { return thing(t, view.rat) }

// ToZ: see the chapter.
func ToZ(t api.Tree) (api.ZPoly, bool) {
	return thing(t, func(x view) (api.ZPoly, bool) {
		l, ok := all(x, view.num)
		return l, ok && zpoly.Right(l)
	})
}

// ToQ: see the chapter.
func ToQ(t api.Tree) (api.QPoly, bool) {
	return thing(t, func(x view) (api.QPoly, bool) {
		l, ok := all(x, view.rat)
		return l, ok && qpoly.Right(l)
	})
}

// ToP: see the chapter.
func ToP(t api.Tree) (api.PPoly, bool) { return thing(t, view.ppoly) }

// ToMat: see the chapter.
func ToMat(t api.Tree) (api.Mat, bool) { return thing(t, view.mat) }

// ToRats: see the chapter.
func ToRats(t api.Tree) ([]api.Rat, bool) {
	return thing(t, func(x view) ([]api.Rat, bool) { return all(x, view.rat) })
}

// ToOrder: see the chapter.
func ToOrder(t api.Tree) (api.Order, bool) {
	return thing(t, func(x view) (api.Order, bool) {
		l, ok := x.many(2)
		if !ok {
			return api.Order{}, false
		}
		kind, ok1 := l[0].small()
		cut, ok2 := l[1].small()
		o := api.Order{Kind: kind, Cut: cut}
		return o, ok1 && ok2 && mono.Order(api.MaxVars, o)
	})
}

// ToM: see the chapter.
func ToM(t api.Tree) (api.MPoly, bool) { return thing(t, view.mpoly) }

// ToMs: see the chapter.
func ToMs(t api.Tree) ([]api.MPoly, bool) {
	return thing(t, func(x view) ([]api.MPoly, bool) {
		l, ok := all(x, view.mpoly)
		for _, f := range l {
			ok = ok && f.N == l[0].N
		}
		return l, ok
	})
}
