package paper

import (
	"strings"

	"algebrist/api"
	"algebrist/digits"
)

// maxOpen is how many lists may be open at once.
const maxOpen = 200

// Put: see the chapter.
func Put(p api.Paper) (string, api.Errno) {
	if !isWord(p.Verb) || !Right(p.Question) || !Right(p.Answer) || !Right(p.Witness) {
		return "", api.ErrArg
	}
	var out strings.Builder
	out.WriteString("(" + p.Verb)
	for _, t := range []api.Tree{p.Question, p.Answer, p.Witness} {
		out.WriteByte(' ')
		write(&out, t)
	}
	out.WriteString(")\n")
	return out.String(), api.OK
}

// write writes a tree: on a stack stand the lists that are open, each with the kids that are still to come.
func write(out *strings.Builder, t api.Tree) {
	stack := [][]int{{len(t) - 1}}
	for len(stack) > 0 {
		top := len(stack) - 1
		if len(stack[top]) == 0 {
			stack = stack[:top]
			if top > 0 {
				out.WriteByte(')')
			}
			blank(out, stack)
			continue
		}
		leaf := t[stack[top][0]]
		stack[top] = stack[top][1:]
		switch leaf.Kind {
		case api.LeafList:
			out.WriteByte('(')
			stack = append(stack, leaf.Kids)
			continue
		case api.LeafNum:
			out.WriteString(digits.Text(leaf.Num))
		default:
			out.WriteString(leaf.Word)
		}
		blank(out, stack)
	}
}

// blank writes a blank, if the innermost open list goes on.
func blank(out *strings.Builder, stack [][]int) {
	if n := len(stack); n > 0 && len(stack[n-1]) > 0 {
		out.WriteByte(' ')
	}
}

// reader reads a text; where it went wrong, is told once.
type reader struct {
	s    string
	at   int
	open int
	err  api.Errno
}

// Read: see the chapter.
func Read(s string) (api.Paper, int, api.Errno) {
	r := &reader{s: s}
	var p api.Paper
	r.skip('(')
	r.open = 1
	p.Verb = r.word()
	r.skip(' ')
	p.Question = r.tree()
	r.skip(' ')
	p.Answer = r.tree()
	r.skip(' ')
	p.Witness = r.tree()
	r.skip(')')
	r.skip('\n')
	if r.err == api.OK && r.at < len(s) {
		r.err = api.ErrSyntax
	}
	if r.err != api.OK {
		return api.Paper{}, r.at, r.err
	}
	return p, 0, api.OK
}

// fail tells an error, if none was told.
func (r *reader) fail(e api.Errno) {
	if r.err == api.OK {
		r.err = e
	}
}

// peek is the next byte; 0 at the end, and behind an error.
func (r *reader) peek() byte {
	if r.err != api.OK || r.at == len(r.s) {
		return 0
	}
	return r.s[r.at]
}

// skip goes past a byte that must be there.
func (r *reader) skip(c byte) {
	if r.err != api.OK || r.peek() != c {
		r.fail(api.ErrSyntax)
		return
	}
	r.at++
}

func (r *reader) word() string {
	from := r.at
	for isLetter(r.peek()) && r.at-from < maxWord {
		r.at++
	}
	if r.at == from {
		r.fail(api.ErrSyntax)
	}
	return r.s[from:r.at]
}

func (r *reader) number() api.Int {
	from := r.at
	if r.peek() == '-' {
		r.at++
		if r.peek() == '0' {
			r.fail(api.ErrSyntax)
		}
	}
	first := r.at
	for isDigit(r.peek()) {
		if r.at-first == api.MaxDigits {
			r.fail(api.ErrRange)
			return api.Int{}
		}
		r.at++
		if r.s[first] == '0' {
			break
		}
	}
	if r.at == first {
		r.fail(api.ErrSyntax)
		return api.Int{}
	}
	n, _ := digits.Parse(r.s[from:r.at])
	return n
}

func isDigit(c byte) bool { return c >= '0' && c <= '9' }

// tree reads a tree: on a stack stand the kids, so far, of the lists that are open.
func (r *reader) tree() api.Tree {
	var t api.Tree
	var stack [][]int
	for r.err == api.OK {
		switch c := r.peek(); {
		case c == '(':
			if r.open == maxOpen {
				r.fail(api.ErrRange)
				continue
			}
			r.at++
			r.open++
			stack = append(stack, nil)
			if r.peek() != ')' {
				continue
			}
		case c == '-' || isDigit(c):
			t = append(t, api.Leaf{Kind: api.LeafNum, Num: r.number()})
			stack = kid(stack, t)
		case isLetter(c):
			t = append(t, api.Leaf{Kind: api.LeafWord, Word: r.word()})
			stack = kid(stack, t)
		default:
			r.fail(api.ErrSyntax)
			continue
		}
		for len(stack) > 0 && r.peek() == ')' {
			r.at++
			r.open--
			top := len(stack) - 1
			t = append(t, api.Leaf{Kind: api.LeafList, Kids: stack[top]})
			stack = kid(stack[:top], t)
		}
		if len(stack) == 0 {
			return t
		}
		r.skip(' ')
	}
	return nil
}

// kid hands the last leaf to the innermost open list, if there is one.
func kid(stack [][]int, t api.Tree) [][]int {
	if n := len(stack); n > 0 {
		stack[n-1] = append(stack[n-1], len(t)-1)
	}
	return stack
}
