package desk

import (
	"math/rand"
	"slices"
	"strings"
	"testing"

	"algebrist/api"
	"algebrist/shell"
)

func lines() []string {
	return []string{"let f, x^2 - 1", "factor f", "nosuch", "let g, f^2 + y", "show g", "gcd 12, 18", "let f, 3", "gcd f, 6", "show 1/0", "prime 97"}
}

func do(t *testing.T, d *Desk, line string) api.Reply {
	t.Helper()
	r, e := d.Do(line)
	if e != api.OK {
		t.Fatal(line, e)
	}
	return r
}

func state(t *testing.T, d *Desk) api.State {
	t.Helper()
	s, e := d.State()
	if e != api.OK || !shell.Right(s) {
		t.Fatal(e)
	}
	return s
}

// P40.1
func TestDesk(t *testing.T) {
	d := New()
	if d.Text() != "" || len(d.Lines()) != 0 || len(state(t, d)) != 0 {
		t.Error("a fresh one")
	}
	if ok, e := d.Undo(); ok || e != api.OK {
		t.Error("nothing to undo")
	}
	do(t, d, "let x, 1")
	if ok, e := d.Undo(); !ok || e != api.OK || len(d.Lines()) != 0 || len(state(t, d)) != 0 {
		t.Error("the only line")
	}
	var s api.State
	for i, line := range lines() {
		next, want := shell.Run(s, line)
		if got := do(t, d, line); !shell.SameReply(got, want) || !shell.Same(state(t, d), next) {
			t.Fatal(line, got, want)
		}
		s = next
		if n, _, _ := d.Stats(); n != i+1 {
			t.Fatal(n)
		}
	}
	want := "> let f, x^2 - 1\nx^2 - 1\n> factor f\n(x - 1)*(x + 1)\n> nosuch\n!9\n> let g, f^2 + y\n(x^2 - 1)^2 + y\n> show g\nx^4 - 2*x^2 + y + 1\n> gcd 12, 18\n6\n> let f, 3\n3\n> gcd f, 6\n3\n> show 1/0\n!3\n> prime 97\nyes\n"
	if d.Text() != want || !slices.Equal(d.Lines(), lines()) {
		t.Error(d.Text())
	}
	if n, wrong, papers := d.Stats(); n != 10 || wrong != 2 || papers != 4 {
		t.Error(n, wrong, papers)
	}
	if !d.Close() || d.Close() {
		t.Error("close")
	}
	if _, e := d.Do("show 1"); e != api.ErrDone {
		t.Error(e)
	}
	if ok, e := d.Undo(); ok || e != api.ErrDone {
		t.Error(e)
	}
	if s, e := d.State(); e != api.ErrDone || len(s) != 0 {
		t.Error(e)
	}
	if d.Text() != want || len(d.Lines()) != 10 {
		t.Error("closed, it still has its lines")
	}
}

// P40.1, P40.3
func TestUndo(t *testing.T) {
	r := rand.New(rand.NewSource(1))
	d := New()
	var done []string
	for range 300 {
		if r.Intn(3) == 0 {
			ok, e := d.Undo()
			if e != api.OK || ok != (len(done) > 0) {
				t.Fatal(ok, e)
			}
			done = done[:max(0, len(done)-1)]
		} else {
			line := lines()[r.Intn(10)]
			do(t, d, line)
			done = append(done, line)
		}
		replies, s := Replay(done...)
		if !slices.Equal(d.Lines(), done) || !shell.Same(state(t, d), s) || len(replies) != len(done) {
			t.Fatal("what was taken back leaves no trace")
		}
		other := New()
		for i, line := range done {
			if got := do(t, other, line); !shell.SameReply(got, replies[i]) {
				t.Fatal("done again")
			}
		}
		if other.Text() != d.Text() {
			t.Fatal("done again")
		}
	}
}

func TestThousandLines(t *testing.T) {
	d := New()
	for range api.MaxLines {
		do(t, d, "x")
	}
	if r, e := d.Do("show 1"); e != api.ErrRange || !shell.SameReply(r, api.Reply{}) {
		t.Error(e)
	}
	if ok, _ := d.Undo(); !ok {
		t.Error("undo")
	}
	do(t, d, "let a, 1")
	l := slices.Repeat([]string{"let a, 2"}, 1000)
	replies, s := Replay(append(l, "let b, 1")...)
	if len(replies) != 1000 || len(s) != 1 {
		t.Error(len(replies), len(s))
	}
	if replies, s := Replay(); len(replies)+len(s) != 0 {
		t.Error("of none")
	}
}

func TestNothingIsShared(t *testing.T) {
	d := New()
	do(t, d, "let f, x^2 - 1")
	s := state(t, d)
	s[0].Name = "h"
	s[0].E[0].Name = "y"
	for i := range s[0].E {
		if len(s[0].E[i].Kids) > 0 {
			s[0].E[i].Kids[0] = 99
		}
		if len(s[0].E[i].Num.Mag) > 0 {
			s[0].E[i].Num.Mag[0] = 77
		}
	}
	d.Lines()[0] = "other"
	if r := do(t, d, "show f"); r.Text != "x^2 - 1" || d.Lines()[0] != "let f, x^2 - 1" {
		t.Error(r)
	}
	a, b := New(), New()
	do(t, a, "let x, 5")
	if r := do(t, b, "show x"); r.Text != "x" {
		t.Error("desks know of one another")
	}
}

// P40.2
func TestJudge(t *testing.T) {
	for _, c := range []struct {
		s  string
		at int
		e  api.Errno
	}{{"(gcdint (4 6) 2 (-1 1))\n", 0, api.OK}, {"(gcdint (4 6) 4 (1 0))\n", 0, api.ErrWitness}, {"(gcdint (4 6) 2 (-1 1))", 23, api.ErrSyntax}, {"(nosuch 1 2 3)\n", 0, api.ErrName}, {"(gcdint 4 2 3)\n", 0, api.ErrArg}, {"", 0, api.ErrSyntax}, {"(a " + strings.Repeat("9", 1001), 1003, api.ErrRange}} {
		if at, e := Judge(c.s); at != c.at || e != c.e {
			t.Error(c.s, at, e)
		}
	}
	for _, line := range lines() {
		d := New()
		do(t, d, "let f, x^2 - 1")
		if r := do(t, d, line); r.Paper != "" {
			if at, e := Judge(r.Paper); at != 0 || e != api.OK {
				t.Error(line, e)
			}
		}
	}
}
