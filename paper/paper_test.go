package paper

import (
	"math"
	"math/rand"
	"strings"
	"testing"

	"algebrist/api"
	"algebrist/frac"
	"algebrist/matrix"
	"algebrist/mpoly"
	"algebrist/ppoly"
	"algebrist/qpoly"
	"algebrist/whole"
	"algebrist/zpoly"
)

func rat(n, d int) api.Rat {
	a, _ := frac.Of(whole.Of(n), whole.Of(d))
	return a
}

func draw(r *rand.Rand, depth int) api.Tree {
	switch k := r.Intn(4); {
	case k == 0 || depth == 0 && k < 3:
		return Small(r.Intn(2001) - 1000)
	case k == 1 || depth == 0:
		t, _ := Word([]string{"a", "yes", strings.Repeat("z", 20)}[r.Intn(3)])
		return t
	}
	var l []api.Tree
	for range r.Intn(4) {
		l = append(l, draw(r, depth-1))
	}
	return List(l...)
}

// text is a tree's text by its definition.
func text(t api.Tree) string {
	kids, ok := Kids(t)
	if !ok {
		if w, is := ToWord(t); is {
			return w
		}
		n, _ := ToSmall(t)
		s := ""
		if n < 0 {
			s, n = "-", -n
		}
		if n == 0 {
			return "0"
		}
		d := ""
		for ; n > 0; n /= 10 {
			d = string(rune('0'+n%10)) + d
		}
		return s + d
	}
	var parts []string
	for _, k := range kids {
		parts = append(parts, text(k))
	}
	return "(" + strings.Join(parts, " ") + ")"
}

// P37.1
func TestTrees(t *testing.T) {
	r := rand.New(rand.NewSource(1))
	for range 500 {
		a, b := draw(r, 4), draw(r, 3)
		l := List(a, b)
		kids, ok := Kids(l)
		if !Right(a) || !Right(l) || !ok || len(kids) != 2 || !Same(kids[0], a) || !Same(kids[1], b) || !Right(kids[1]) {
			t.Fatal(a, b)
		}
		if Same(a, l) || Same(a, b) != (text(a) == text(b)) {
			t.Fatal("same")
		}
	}
	list := func(kids ...int) api.Leaf { return api.Leaf{Kind: api.LeafList, Kids: kids} }
	num, word := api.Leaf{Kind: api.LeafNum, Num: whole.Of(5)}, api.Leaf{Kind: api.LeafWord, Word: "yes"}
	for i, c := range []struct {
		t    api.Tree
		want bool
	}{
		{nil, false}, {api.Tree{num}, true}, {api.Tree{word}, true}, {api.Tree{list()}, true}, {api.Tree{num, word}, false}, {api.Tree{num, word, list(0, 1)}, true}, {api.Tree{num, word, list(1, 0)}, false}, {api.Tree{num, list(0, 0)}, false},
		{api.Tree{num, list(1)}, false}, {api.Tree{num, list(-1)}, false}, {api.Tree{num, list()}, false}, {api.Tree{num, num, list(0), list(1, 2)}, false}, {api.Tree{num, list(0), num, list(1, 2)}, true},
		{api.Tree{{Kind: api.LeafWord}}, false}, {api.Tree{{Kind: api.LeafWord, Word: "Yes"}}, false}, {api.Tree{{Kind: api.LeafWord, Word: strings.Repeat("a", 21)}}, false}, {api.Tree{{Kind: 3}}, false}, {api.Tree{{Kind: api.LeafNum, Word: "a"}}, false},
		{api.Tree{{Kind: api.LeafWord, Word: "a", Num: whole.Of(1)}}, false}, {api.Tree{{Kind: api.LeafList, Word: "a"}}, false}, {api.Tree{{Kind: api.LeafNum, Num: api.Int{Neg: true}}}, false}, {api.Tree{num, {Kind: api.LeafNum, Kids: []int{0}}}, false}, {api.Tree{num, list(math.MaxInt)}, false},
	} {
		if Right(c.t) != c.want {
			t.Error(i)
		}
	}
	for _, s := range []string{"", "A", "a b", "1", strings.Repeat("a", 21), "é"} {
		if w, e := Word(s); e != api.ErrArg || len(w) != 0 {
			t.Error(s)
		}
	}
	if k, ok := Kids(Small(3)); ok || len(k) != 0 {
		t.Error("kids of a number")
	}
	if k, ok := Kids(List()); !ok || len(k) != 0 {
		t.Error("kids of none")
	}
}

func TestThings(t *testing.T) {
	r := rand.New(rand.NewSource(2))
	for range 200 {
		n := r.Intn(4)
		z := make(api.ZPoly, n)
		q := make(api.QPoly, n)
		for i := range n {
			z[i], q[i] = whole.Of(r.Intn(9)-4), rat(r.Intn(9)-4, 1+r.Intn(4))
		}
		rats := append([]api.Rat(nil), q...)
		z, q = zpoly.Add(z, nil), qpoly.Add(q, nil)
		p := ppoly.From(7, z)
		m := api.MPoly{N: 2}
		for range n {
			m = mpoly.Add(m, api.MPoly{N: 2, T: []api.Term{{E: []int{r.Intn(4), r.Intn(4)}, C: rat(1+r.Intn(4), 1+r.Intn(3))}}})
		}
		a := api.Mat{R: 1, C: n, A: rats}
		o := api.Order{Kind: r.Intn(4)}
		if o.Kind == api.Block {
			o.Cut = r.Intn(7)
		}
		if x, ok := ToZ(OfZ(z)); !ok || !zpoly.Same(x, z) {
			t.Fatal("z")
		}
		if x, ok := ToQ(OfQ(q)); !ok || !qpoly.Same(x, q) {
			t.Fatal("q")
		}
		if x, ok := ToP(OfP(p)); !ok || !ppoly.Same(x, p) {
			t.Fatal("p")
		}
		if x, ok := ToM(OfM(m)); !ok || !mpoly.Same(x, m) {
			t.Fatal("m")
		}
		if x, ok := ToMs(OfMs([]api.MPoly{m, m})); !ok || len(x) != 2 || !mpoly.Same(x[1], m) {
			t.Fatal("ms")
		}
		if x, ok := ToMat(OfMat(a)); !ok || !matrix.Same(x, a) {
			t.Fatal("mat")
		}
		if x, ok := ToRats(OfRats(rats)); !ok || len(x) != n || n > 0 && !frac.Same(x[n-1], rats[n-1]) {
			t.Fatal("rats")
		}
		if x, ok := ToOrder(OfOrder(o)); !ok || x != o {
			t.Fatal("order")
		}
		for _, x := range []api.Tree{OfZ(z), OfQ(q), OfP(p), OfM(m), OfMat(a), OfRats(rats), OfOrder(o)} {
			if !Right(x) {
				t.Fatal("right")
			}
		}
	}
	for _, c := range [][2]string{{text(OfRat(rat(-1, 2))), "(-1 2)"}, {text(OfZ(api.ZPoly{whole.Of(0), whole.Of(3)})), "(0 3)"}, {text(OfQ(api.QPoly{rat(1, 2)})), "((1 2))"}, {text(OfP(api.PPoly{P: 5, C: []uint32{1, 2}})), "(5 (1 2))"}, {text(OfMat(api.Mat{R: 1, C: 1, A: []api.Rat{rat(3, 1)}})), "(1 1 ((3 1)))"}, {text(OfOrder(api.Order{Kind: 3, Cut: 2})), "(3 2)"}, {text(OfM(mpoly.Var(2, 1))), "(2 ((0 1) (1 1)))"}, {text(OfMs(nil)), "()"}} {
		if c[0] != c[1] {
			t.Error(c)
		}
	}
}

// read is a tree of its text.
func read(t *testing.T, s string) api.Tree {
	t.Helper()
	p, _, e := Read("(x " + s + " () ())\n")
	if e != api.OK {
		t.Fatal(s, e)
	}
	return p.Question
}

func TestNoThings(t *testing.T) {
	is := func(s string) (out string) {
		x := read(t, s)
		for name, ok := range map[string]bool{"n": ok(ToNum(x)), "s": ok(ToSmall(x)), "w": ok(ToWord(x)), "r": ok(ToRat(x)), "z": ok(ToZ(x)), "q": ok(ToQ(x)), "p": ok(ToP(x)), "a": ok(ToMat(x)), "l": ok(ToRats(x)), "o": ok(ToOrder(x)), "m": ok(ToM(x)), "g": ok(ToMs(x))} {
			if ok {
				out += name
			}
		}
		return out
	}
	for s, want := range map[string]string{
		"5": "ns", "4611686018427387904": "ns", "4611686018427387905": "n", "-4611686018427387904": "ns", "-4611686018427387905": "n", "99999999999999999999": "n", "yes": "w", "()": "zqlg", "(0)": "m", "(1 2)": "rz", "(2 4)": "z", "(1 -2)": "z", "(1 0)": "ro"[1:],
		"(0 1)": "rz", "(3 6)": "zo", "(3 7)": "rz", "(4 0)": "", "(0 0)": "o", "((1 2) (0 1))": "l", "((1 2))": "ql", "(5 (1 2))": "p", "(5 (1 0))": "", "(4 (1))": "", "(5 (5))": "", "(5 (-1))": "", "(5 (4294967297))": "", "(5 ())": "p", "(1 1 ((3 1)))": "a", "(1 1 ())": "", "(0 0 ())": "a", "(41 0 ())": "", "(1 1 ((3 1) (3 1)))": "",
		"(0 (yes (1 1)))": "", "(0 (() 5))": "", "(0 (() (1 1)))": "m", "(5 (4294967296 1))": "", "(4294967301 (1))": "",
		"(2 ((0 1) (1 1)))": "m", "(2 ((0 1) (0 1)))": "", "(1 ((0 1) (1 1)))": "", "(1 ((0) (1 1)) ((1) (1 1)))": "", "(7)": "m"[1:], "((2) (2))": "g", "((2) (3))": "", "((0) (1 ((1) (1 1))))": "", "(1 yes)": "", "(yes)": "",
	} {
		got := is(s)
		for _, c := range want {
			if !strings.ContainsRune(got, c) {
				t.Errorf("%s: %q, want %q", s, got, want)
			}
		}
		if s != "(0)" && s != "(7)" && s != "(1 0)" && len(got) != len(want) {
			t.Errorf("%s: %q, want %q", s, got, want)
		}
	}
	for _, bad := range []api.Tree{nil, {{Kind: 3}}, {{Kind: api.LeafNum, Num: whole.Of(1)}, {Kind: api.LeafNum, Num: whole.Of(1)}}} {
		if ok(ToNum(bad)) || ok(ToWord(bad)) || ok(ToZ(bad)) || ok(ToMs(bad)) || ok(ToOrder(bad)) || ok(ToMat(bad)) {
			t.Error(bad)
		}
	}
}

func ok[T any](_ T, is bool) bool { return is }

// P37.2, P37.3
func TestPapers(t *testing.T) {
	r := rand.New(rand.NewSource(3))
	for range 500 {
		p := api.Paper{Verb: []string{"gcd", "x", strings.Repeat("v", 20)}[r.Intn(3)], Question: draw(r, 4), Answer: draw(r, 3), Witness: draw(r, 5)}
		s, e := Put(p)
		want := "(" + p.Verb + " " + text(p.Question) + " " + text(p.Answer) + " " + text(p.Witness) + ")\n"
		if e != api.OK || s != want {
			t.Fatal(s, want)
		}
		q, at, e := Read(s)
		if e != api.OK || at != 0 || q.Verb != p.Verb || !Same(q.Question, p.Question) || !Same(q.Answer, p.Answer) || !Same(q.Witness, p.Witness) {
			t.Fatal("read", s)
		}
		// All that goes on to a paper's text is told at its end; another byte where it stands.
		cut := r.Intn(len(s))
		if q, at, e := Read(s[:cut]); e != api.ErrSyntax || at != cut || q.Verb != "" || len(q.Question) != 0 {
			t.Fatal("cut", s[:cut], at, e)
		}
		bad := s[:cut] + "#" + s[cut:]
		if _, at, e := Read(bad); e != api.ErrSyntax || at != cut {
			t.Fatal("#", bad, at, e)
		}
		b := []byte(s)
		b[cut] = "() -019az\n"[r.Intn(10)]
		if q, at, e := Read(string(b)); e == api.OK {
			if u, _ := Put(q); u != string(b) {
				t.Fatal("has just that text", string(b))
			}
		} else if at < cut {
			t.Fatal("too early", string(b), at)
		}
	}
	four := api.Paper{Verb: "gcdint", Question: List(Small(4), Small(6)), Answer: Small(2), Witness: List(Small(-1), Small(1))}
	if s, _ := Put(four); s != "(gcdint (4 6) 2 (-1 1))\n" {
		t.Error(s)
	}
	for i, p := range []api.Paper{{}, {Verb: "a", Answer: Small(1), Witness: Small(1)}, {Verb: "a", Question: Small(1), Witness: Small(1)}, {Verb: "A", Question: Small(1), Answer: Small(1), Witness: Small(1)}, {Verb: "a", Question: Small(1), Answer: Small(1)}, {Verb: strings.Repeat("a", 21), Question: Small(1), Answer: Small(1), Witness: Small(1)}, {Verb: "", Question: Small(1), Answer: Small(1), Witness: Small(1)}} {
		if s, e := Put(p); e != api.ErrArg || s != "" {
			t.Error(i)
		}
	}
}

func TestWrongTexts(t *testing.T) {
	long := strings.Repeat("9", 1000)
	deep := strings.Repeat("(", 199)
	for _, c := range []struct {
		s  string
		at int
		e  api.Errno
	}{
		{"", 0, api.ErrSyntax}, {"(", 1, api.ErrSyntax}, {" (", 0, api.ErrSyntax}, {"()", 1, api.ErrSyntax}, {"( a", 1, api.ErrSyntax}, {"(a)", 2, api.ErrSyntax}, {"(a  1", 3, api.ErrSyntax}, {"(a 1)", 4, api.ErrSyntax}, {"(a 1 2)", 6, api.ErrSyntax}, {"(a 1 2 3 4)", 8, api.ErrSyntax},
		{"(a 1 2 3)", 9, api.ErrSyntax}, {"(a 1 2 3)\n\n", 10, api.ErrSyntax}, {"(a 1 2 3)\nx", 10, api.ErrSyntax}, {"(a 1 2 3) ", 9, api.ErrSyntax}, {"(a 01 2 3)\n", 4, api.ErrSyntax}, {"(a -0 2 3)\n", 4, api.ErrSyntax}, {"(a - 2 3)\n", 4, api.ErrSyntax}, {"(a +1 2 3)\n", 3, api.ErrSyntax}, {"(a 1a 2 3)\n", 4, api.ErrSyntax}, {"(a a1 2 3)\n", 4, api.ErrSyntax},
		{"(A 1 2 3)\n", 1, api.ErrSyntax}, {"(1 1 2 3)\n", 1, api.ErrSyntax}, {"(a (1  2) 2 3)\n", 6, api.ErrSyntax}, {"(a ( 1) 2 3)\n", 4, api.ErrSyntax}, {"(a (1 ) 2 3)\n", 6, api.ErrSyntax}, {"(a (1)2 3)\n", 6, api.ErrSyntax}, {"(a ()() 3)\n", 5, api.ErrSyntax}, {"(a -", 4, api.ErrSyntax}, {"(a 1 2 ", 7, api.ErrSyntax}, {"(a 0", 4, api.ErrSyntax}, {"(a 00", 4, api.ErrSyntax},
		{"(" + strings.Repeat("a", 21), 21, api.ErrSyntax}, {"(a " + strings.Repeat("a", 21), 23, api.ErrSyntax}, {"(a\t1", 2, api.ErrSyntax},
		{"(a " + long + "9", 1003, api.ErrRange}, {"(a -" + long + "9", 1004, api.ErrRange}, {"(a " + long + "x", 1003, api.ErrSyntax}, {"(a " + deep + "(", 202, api.ErrRange}, {"(a " + deep + "1", 203, api.ErrSyntax}, {"(a 1 " + deep + "(", 204, api.ErrRange}, {"(a () () " + deep + "x" + strings.Repeat(")", 199) + ")\n", 0, api.OK},
		{"(a " + long + " 0 0)\n", 0, api.OK}, {"(a -" + long + " 0 0)\n", 0, api.OK},
	} {
		p, at, e := Read(c.s)
		if at != c.at || e != c.e || e != api.OK && (p.Verb != "" || len(p.Question)+len(p.Answer)+len(p.Witness) != 0) {
			t.Errorf("%.30q: %d %d, want %d %d", c.s, at, e, c.at, c.e)
		}
	}
}
