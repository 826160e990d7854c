package paper

import (
	"math/rand"
	"strings"
	"testing"

	"algebrist/api"
)

// wanted is what Read tells of a text, byte by byte: mode says what has been read last, open how many lists are open, trees how many trees there are.
func wanted(s string) (int, api.Errno) {
	mode, open, trees, size := 'b', 0, 0, 0
	for i := 0; i < len(s); i++ {
		c := s[i]
		item := mode == ' ' || mode == '('
		inItem := mode == '0' || mode == '9' || mode == 'w' || mode == ')'
		switch {
		case mode == 'b' && c == '(':
			mode, open, size = 'v', 1, 0
		case mode == 'v' && isLetter(c) && size < 20:
			size++
		case mode == 'v' && c == ' ' && size > 0:
			mode = ' '
		case item && c == '(':
			if open == 200 {
				return i, api.ErrRange
			}
			open++
			mode = '('
		case item && c == '-':
			mode, size = '-', 0
		case item && c == '0':
			mode = '0'
		case (item || mode == '-') && c >= '1' && c <= '9':
			mode, size = '9', 1
		case mode == '9' && isDigit(c):
			size++
			if size > 1000 {
				return i, api.ErrRange
			}
		case item && isLetter(c):
			mode, size = 'w', 1
		case mode == 'w' && isLetter(c) && size < 20:
			size++
		case (inItem && open > 1 || mode == '(') && c == ')':
			open--
			mode = ')'
			if open == 1 {
				trees++
			}
		case inItem && open > 1 && c == ' ':
			mode = ' '
		case inItem && open == 1 && c == ' ' && (mode == ')' && trees < 3 || mode != ')' && trees < 2):
			if mode != ')' {
				trees++
			}
			mode = ' '
		case inItem && open == 1 && c == ')' && (mode == ')' && trees == 3 || mode != ')' && trees == 2):
			mode = 'e'
		case mode == 'e' && c == '\n':
			mode = '.'
		default:
			return i, api.ErrSyntax
		}
	}
	if mode == '.' {
		return 0, api.OK
	}
	return len(s), api.ErrSyntax
}

// P37.2
func TestAgainstTheGrammar(t *testing.T) {
	r := rand.New(rand.NewSource(5))
	parts := []string{"(", ")", " ", "a", "-", "0", "1", "25", "yes", "()", "(1 2)", "\n", "A", "é", strings.Repeat("z", 20), strings.Repeat("9", 999)}
	good := 0
	for range 200000 {
		var s string
		if r.Intn(2) == 0 {
			p := api.Paper{Verb: "gcd", Question: draw(r, 3), Answer: draw(r, 2), Witness: draw(r, 3)}
			s, _ = Put(p)
			if r.Intn(4) > 0 {
				at := r.Intn(len(s))
				s = s[:at] + parts[r.Intn(len(parts))] + s[at+r.Intn(2):]
			}
		} else {
			s = "(a "
			for range r.Intn(10) {
				s += parts[r.Intn(len(parts))]
			}
		}
		at, err := wanted(s)
		p, gotAt, got := Read(s)
		if gotAt != at || got != err {
			t.Fatalf("%q: %d %d, want %d %d", s, gotAt, got, at, err)
		}
		if got == api.OK {
			good++
			if u, _ := Put(p); u != s {
				t.Fatal(s)
			}
		}
	}
	if good == 0 {
		t.Error("none is good")
	}
}
