package shell

import (
	"strconv"
	"strings"

	"algebrist/api"
	"algebrist/frac"
	"algebrist/qpoly"
)

// row is texts in a row.
func row(l []string) string {
	if len(l) == 0 {
		return "none"
	}
	return strings.Join(l, ", ")
}

// each is the texts of all of some things.
func each[T any](l []T, text func(T) string) []string {
	var out []string
	for _, x := range l {
		out = append(out, text(x))
	}
	return out
}

// entries is rationals in a row.
func entries(l []api.Rat) string { return row(each(l, frac.Text)) }

// termsText is the text of a polynomial of terms that fall, in named variables.
func termsText(names []string, l []api.Term) string {
	if len(l) == 0 {
		return "0"
	}
	var out strings.Builder
	for i, t := range l {
		neg := frac.Sign(t.C) < 0
		switch {
		case i == 0 && neg:
			out.WriteString("-")
		case i > 0 && neg:
			out.WriteString(" - ")
		case i > 0:
			out.WriteString(" + ")
		}
		out.WriteString(termText(names, t))
	}
	return out.String()
}

// termText is a term without its sign.
func termText(names []string, t api.Term) string {
	var parts []string
	for i, n := range t.E {
		switch {
		case n == 1:
			parts = append(parts, names[i])
		case n > 1:
			parts = append(parts, names[i]+"^"+strconv.Itoa(n))
		}
	}
	size := frac.Text(frac.Abs(t.C))
	if size != "1" || len(parts) == 0 {
		parts = append([]string{size}, parts...)
	}
	return strings.Join(parts, "*")
}

// polyText is the text of a polynomial in one variable.
func polyText(name string, f api.QPoly) string {
	var l []api.Term
	for i := len(f) - 1; i >= 0; i-- {
		if frac.Sign(f[i]) != 0 {
			l = append(l, api.Term{E: []int{i}, C: f[i]})
		}
	}
	return termsText([]string{name}, l)
}

// functionText is the text of a function.
func functionText(name string, f api.RatFun) string {
	return quotientText(polyText(name, f.Num), polyText(name, f.Den), qpoly.Deg(f.Den) == 0)
}

func quotientText(num, den string, isPoly bool) string {
	if isPoly {
		return num
	}
	return "(" + num + ")/(" + den + ")"
}

// powerText is a text in parentheses, to a power.
func powerText(s string, n int) string {
	if n == 1 {
		return "(" + s + ")"
	}
	return "(" + s + ")^" + strconv.Itoa(n)
}

// logText is the text of a logarithm, in z and a variable.
func logText(name, z string, l api.Log) string {
	var terms []api.Term
	for i := len(l.S) - 1; i >= 0; i-- {
		for j := len(l.S[i]) - 1; j >= 0; j-- {
			if c := l.S[i][j]; frac.Sign(c) != 0 {
				terms = append(terms, api.Term{E: []int{i, j}, C: c})
			}
		}
	}
	return polyText(z, l.Q) + ": " + termsText([]string{name, z}, terms)
}
