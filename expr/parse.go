package expr

import (
	"strings"

	"algebrist/api"
	"algebrist/digits"
	"algebrist/whole"
)

// wrong is what is thrown where a text goes wrong.
type wrong struct {
	at  int
	err api.Errno
}

// reader reads a text, one token ahead.
type reader struct {
	s     string
	at    int // of the token
	token string
	nodes api.Expr
}

// Parse: see the chapter.
func Parse(s string) (e api.Expr, at int, err api.Errno) {
	if len(s) > api.MaxText {
		return nil, 0, api.ErrRange
	}
	defer func() {
		switch x := recover().(type) {
		case nil:
		case wrong:
			e, at, err = nil, x.at, x.err
		default:
			panic(x)
		}
	}()
	r := &reader{s: s}
	r.next()
	r.sum()
	if r.token != "" {
		r.fail(api.ErrSyntax)
	}
	return r.nodes, 0, api.OK
}

func (r *reader) fail(e api.Errno) { panic(wrong{r.at, e}) }

// next goes on to the next token: the longest one that there can be, or one other byte; none at the end.
func (r *reader) next() {
	r.at += len(r.token)
	for r.at < len(r.s) && r.s[r.at] == ' ' {
		r.at++
	}
	end := r.at
	switch {
	case end == len(r.s):
	case isDigit(r.s[end]):
		for end < len(r.s) && isDigit(r.s[end]) {
			end++
		}
	case isLetter(r.s[end]):
		for end < len(r.s) && (isLetter(r.s[end]) || isDigit(r.s[end])) {
			end++
		}
	default:
		end++
	}
	r.token = r.s[r.at:end]
}

// add appends a node, and tells its place.
func (r *reader) add(n api.Node) int {
	r.nodes = append(r.nodes, n)
	return len(r.nodes) - 1
}

// row reads parts with signs between them, that go together from the left.
func (r *reader) row(part func() int, kinds map[string]int) int {
	left := part()
	for {
		kind, is := kinds[r.token]
		if !is {
			return left
		}
		r.next()
		right := part()
		left = r.add(api.Node{Kind: kind, Kids: []int{left, right}})
	}
}

func (r *reader) sum() int {
	return r.row(r.term, map[string]int{"+": api.NodeAdd, "-": api.NodeSub})
}

func (r *reader) term() int {
	return r.row(r.factor, map[string]int{"*": api.NodeMul, "/": api.NodeDiv})
}

func (r *reader) factor() int {
	if r.token == "-" {
		r.next()
		return r.add(api.Node{Kind: api.NodeNeg, Kids: []int{r.factor()}})
	}
	base := r.atom()
	if r.token != "^" {
		return base
	}
	r.next()
	if r.token == "" || !isDigit(r.token[0]) {
		r.fail(api.ErrSyntax)
	}
	n := r.number()
	if k, ok := whole.Int(n); !ok || k > api.MaxPower {
		r.fail(api.ErrRange)
	}
	r.next()
	exponent := r.add(api.Node{Kind: api.NodeNum, Num: n})
	return r.add(api.Node{Kind: api.NodePow, Kids: []int{base, exponent}})
}

// number is the number that the token is.
func (r *reader) number() api.Int {
	if len(r.token) > api.MaxDigits {
		r.fail(api.ErrRange)
	}
	body := strings.TrimLeft(r.token, "0")
	if body == "" {
		return api.Int{}
	}
	n, _ := digits.Parse(body)
	return n
}

func (r *reader) atom() int {
	switch {
	case r.token == "":
		r.fail(api.ErrSyntax)
	case isDigit(r.token[0]):
		n := r.number()
		r.next()
		return r.add(api.Node{Kind: api.NodeNum, Num: n})
	case isLetter(r.token[0]):
		if len(r.token) > maxName {
			r.fail(api.ErrRange)
		}
		name := r.token
		r.next()
		return r.add(api.Node{Kind: api.NodeVar, Name: name})
	case r.token != "(":
		r.fail(api.ErrSyntax)
	}
	r.next()
	inner := r.sum()
	if r.token != ")" {
		r.fail(api.ErrSyntax)
	}
	r.next()
	return inner
}

// strength says how fast a node's parts hold together.
func strength(kind int) int {
	switch kind {
	case api.NodeAdd, api.NodeSub:
		return 1
	case api.NodeMul, api.NodeDiv:
		return 2
	case api.NodeNeg, api.NodePow:
		return 3
	}
	return 4
}

// Print: see the chapter.
func Print(e api.Expr) string {
	var out strings.Builder
	write(&out, e, len(e)-1, 0)
	return out.String()
}

// write writes a node, in parentheses, if it is weaker than it must be.
func write(out *strings.Builder, e api.Expr, at, least int) {
	n := e[at]
	if strength(n.Kind) < least {
		out.WriteByte('(')
		defer out.WriteByte(')')
	}
	both := func(sign string, left, right int) {
		write(out, e, n.Kids[0], left)
		out.WriteString(sign)
		write(out, e, n.Kids[1], right)
	}
	switch n.Kind {
	case api.NodeNum:
		out.WriteString(digits.Text(n.Num))
	case api.NodeVar:
		out.WriteString(n.Name)
	case api.NodeAdd:
		both(" + ", 0, 2)
	case api.NodeSub:
		both(" - ", 0, 2)
	case api.NodeMul:
		both("*", 2, 3)
	case api.NodeDiv:
		both("/", 2, 3)
	case api.NodePow:
		both("^", 4, 0)
	case api.NodeNeg:
		out.WriteByte('-')
		write(out, e, n.Kids[0], 3)
	}
}
