package promises

import (
	"math/rand"
	"slices"
	"strings"
	"testing"

	"algebrist/api"
	"algebrist/desk"
	"algebrist/expr"
	"algebrist/mpoly"
	"algebrist/paper"
	"algebrist/shell"
)

// examples are lines of the whole.
func examples() map[string]string {
	return map[string]string{
		"gcd x^2 - 1, x^3 - 1":             "x - 1",
		"factor x^4 + 4":                   "(x^2 - 2*x + 2)*(x^2 + 2*x + 2)",
		"factor x^4 + 1":                   "(x^4 + 1)",
		"count x^3 - 2, 1, 2":              "1",
		"count x^3 - 2, -100, 100":         "1",
		"points x^2 + y^2 - 5, x*y - 2":    "(-2, -1), (-1, -2), (1, 2), (2, 1)",
		"in x - y; x^2, y^2":               "no",
		"in x^2*y; x^2, y^2":               "yes",
		"integrate 1/x^2":                  "(-1)/(x)",
		"integrate 1/(x^2 + 1)":            "0; z^2 + 1/4: x + 2*z",
		"apart 1/(x^2 - 1)":                "(1/2)/(x - 1) + (-1/2)/(x + 1)",
		"prime 2^61 - 1":                   "!2",
		"check (gcdint (4 6) 2 (-1 1))":    "yes",
		"check (gcdint (4 6) 1 (-1 1))":    "no",
		"gcd 4, 6":                         "2",
		"roots x^3 - 2":                    "1.259921",
		"linear 1, 1, 3; 1, -1, 1":         "2, 1",
		"linear 1, 1, 1; 2, 2, 3":          "none",
		"inverse 1, 2; 3, 4":               "-2, 1; 3/2, -1/2",
		"basis x^2 - y, x*y - 1":           "-x + y^2, x*y - 1, x^2 - y",
		"prime 1000003":                    "yes",
		"series 1/(1 - x - x^2), 8":        "1, 1, 2, 3, 5, 8, 13, 21",
		"det 1, 2, 3; 4, 5, 6; 7, 8, 10":   "-3",
		"factor 1234567890":                "2*3^2*5*3607*3803",
		"integrate (3*x^2 + 1)/(x^3 + x)":  "0; z - 1: x^3 + x",
		"count (x - 1)^2*(x + 2), -2, 1":   "1",
		"approx x^5 - x - 1, 0, 20":        "1.16730397826141868425",
		"area 3*x^2, 0, 2":                 "8",
		"gcd (x + y)^2 - (x - y)^2, 8*x*y": "!10",
		"factor (x + 1)^3*(2*x - 4)":       "2*(x - 2)*(x + 1)^3",
	}
}

// P1, and the ten examples: every answer's paper is accepted; with another answer it is refused.
func TestExamplesAndTheirPapers(t *testing.T) {
	for line, want := range examples() {
		d := desk.New()
		r, _ := d.Do(line)
		if want[0] == '!' {
			if text := d.Text(); !strings.HasSuffix(text, "\n"+want+"\n") {
				t.Error(line, text)
			}
			continue
		}
		if r.Err != api.OK || r.Text != want {
			t.Error(line, r)
		}
		if r.Paper == "" {
			continue
		}
		if at, e := desk.Judge(r.Paper); at != 0 || e != api.OK {
			t.Error("refused", line, e)
		}
		p, _, _ := paper.Read(r.Paper)
		for _, other := range others(p.Answer) {
			q := p
			q.Answer = other
			s, _ := paper.Put(q)
			if _, e := desk.Judge(s); e == api.OK {
				t.Error("accepted", line, s)
			}
		}
	}
}

// others are answers that differ in one number.
func others(t api.Tree) []api.Tree {
	var out []api.Tree
	for i, leaf := range t {
		if leaf.Kind != api.LeafNum {
			continue
		}
		for _, n := range []int{0, 1, -1, 3} {
			other := slices.Clone(t)
			other[i].Num = paper.Small(n)[0].Num
			if !paper.Same(other, t) && !isRoots(t) {
				out = append(out, other)
			}
		}
	}
	return out
}

// isRoots: intervals aren't kept in one way.
func isRoots(t api.Tree) bool {
	l, ok := paper.Kids(t)
	if !ok || len(l) == 0 {
		return false
	}
	pair, ok := paper.Kids(l[0])
	if !ok || len(pair) != 2 {
		return false
	}
	_, first := paper.ToRat(pair[0])
	_, second := paper.ToRat(pair[1])
	return first && second
}

// P9: any bytes are an expression, a paper or a line, or are told where not; what is written is read as it was; equal expressions have equal forms.
func TestAnyBytes(t *testing.T) {
	r := rand.New(rand.NewSource(9))
	words := []string{"x", "y1", "(", ")", "+", "-", "*", "/", "^", "2", "10", " ", "$", "\n", "é", "gcdint", "(gcdint (4 6) 2 (-1 1))\n", "show ", "let ", ","}
	for range 4000 {
		s := ""
		for range r.Intn(9) {
			s += words[r.Intn(len(words))]
		}
		e, at, err := expr.Parse(s)
		if err == api.OK {
			again, _, err := expr.Parse(expr.Print(e))
			if err != api.OK || expr.Print(again) != expr.Print(e) {
				t.Fatal(s)
			}
			f, err := expr.Form(e)
			if g, other := expr.Form(again); err != other || err == api.OK && (!mpoly.Same(f.Num, g.Num) || !mpoly.Same(f.Den, g.Den)) {
				t.Fatal(s)
			}
		} else if at < 0 || at > len(s) {
			t.Fatal(s, at)
		}
		if p, at, err := paper.Read(s); err == api.OK {
			if u, _ := paper.Put(p); u != s {
				t.Fatal(s)
			}
		} else if at < 0 || at > len(s) {
			t.Fatal(s, at)
		}
		if _, reply := shell.Run(nil, s); reply.At < 0 || reply.At > len(s) {
			t.Fatal(s, reply)
		}
	}
	for _, pair := range [][2]string{{"(x + y)^3", "x^3 + 3*x^2*y + 3*x*y^2 + y^3"}, {"1/(1/x + 1/y)", "x*y/(x + y)"}, {"(x^4 - y^4)/(x - y)/(x + y)", "y^2 + x^2"}} {
		a, _, _ := expr.Parse(pair[0])
		b, _, _ := expr.Parse(pair[1])
		f, _ := expr.Form(a)
		g, _ := expr.Form(b)
		if !slices.Equal(f.Names, g.Names) || !mpoly.Same(f.Num, g.Num) || !mpoly.Same(f.Den, g.Den) {
			t.Error(pair)
		}
	}
}

// P10: the same lines give the same answers; what is refused changes nothing.
func TestSessions(t *testing.T) {
	r := rand.New(rand.NewSource(10))
	var pool []string
	for line := range examples() {
		pool = append(pool, line)
	}
	slices.Sort(pool)
	pool = append(pool, "let f, x^2 - 1", "let x, y + 1", "factor f", "show f + x", "let 1, 2", "let f, $")
	for range 10 {
		var lines []string
		for range 12 {
			lines = append(lines, pool[r.Intn(len(pool))])
		}
		a, s := desk.Replay(lines...)
		b, u := desk.Replay(lines...)
		if !slices.EqualFunc(a, b, shell.SameReply) || !shell.Same(s, u) {
			t.Fatal(lines)
		}
		var kept []string
		for i, line := range lines {
			if a[i].Err == api.OK {
				kept = append(kept, line)
			}
		}
		if _, u := desk.Replay(kept...); !shell.Same(s, u) {
			t.Fatal("what is refused changes nothing", lines)
		}
	}
}
