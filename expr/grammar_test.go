package expr

import (
	"math/rand"
	"strconv"
	"strings"
	"testing"

	"algebrist/api"
)

// wanted is what Parse tells of a text, by what may stand behind what: at first, and behind a sign, an operand; behind an operand a sign, a parenthesis that closes one, or, where it isn't a power, ^; behind that a number.
func wanted(s string) (int, api.Errno) {
	state, open, base := 'o', 0, false
	for i := 0; ; {
		for i < len(s) && s[i] == ' ' {
			i++
		}
		if i == len(s) {
			if state == 's' && open == 0 {
				return 0, api.OK
			}
			return i, api.ErrSyntax
		}
		j := i + 1
		for j < len(s) && (isDigit(s[i]) && isDigit(s[j]) || isLetter(s[i]) && (isLetter(s[j]) || isDigit(s[j]))) {
			j++
		}
		token := s[i:j]
		number, name := isDigit(s[i]), isLetter(s[i])
		value, _ := strconv.ParseFloat(token, 64)
		switch {
		case state == 'o' && (number && len(token) > 1000 || name && len(token) > 20), state == '^' && number && (len(token) > 1000 || value > 1000):
			return i, api.ErrRange
		case state == 'o' && (number || name):
			state, base = 's', true
		case state == '^' && number:
			state, base = 's', false
		case state == 'o' && token == "(":
			open++
		case state == 's' && token == ")" && open > 0:
			open--
			base = true
		case state == 's' && strings.Contains("+-*/", token):
			state = 'o'
		case state == 's' && token == "^" && base:
			state = '^'
		case state != 'o' || token != "-":
			return i, api.ErrSyntax
		}
		i = j
	}
}

// P36.1
func TestAgainstTheGrammar(t *testing.T) {
	r := rand.New(rand.NewSource(4))
	common := []string{"x", "y2", "(", ")", "+", "-", "*", "/", "^", "2", " "}
	rare := []string{"007", "1001", "1000", "  ", "$", "\t", "é", "abcdefghijklmnopqrstu", "abcdefghijklmnopqrst", strings.Repeat("1", 1001), strings.Repeat("0", 1000), "0"}
	for range 200000 {
		s := ""
		for range r.Intn(12) {
			if r.Intn(12) == 0 {
				s += rare[r.Intn(len(rare))]
			} else {
				s += common[r.Intn(len(common))]
			}
		}
		at, err := wanted(s)
		e, gotAt, got := Parse(s)
		if gotAt != at || got != err || got == api.OK && !Right(e) || got != api.OK && len(e) != 0 {
			t.Fatalf("%q: %d %d, want %d %d", s, gotAt, got, at, err)
		}
	}
}
