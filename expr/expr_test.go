package expr

import (
	"math/rand"
	"slices"
	"strings"
	"testing"

	"algebrist/api"
	"algebrist/frac"
	"algebrist/mpoly"
	"algebrist/whole"
)

func rat(n, d int) api.Rat {
	a, _ := frac.Of(whole.Of(n), whole.Of(d))
	return a
}

func parse(t *testing.T, s string) api.Expr {
	t.Helper()
	e, at, err := Parse(s)
	if err != api.OK || at != 0 || !Right(e) {
		t.Fatal(s, e, at, err)
	}
	return e
}

func form(t *testing.T, s string) api.Fraction {
	t.Helper()
	f, e := Form(parse(t, s))
	if e != api.OK {
		t.Fatal(s, e)
	}
	return f
}

func sameForm(f, g api.Fraction) bool {
	return slices.Equal(f.Names, g.Names) && mpoly.Same(f.Num, g.Num) && mpoly.Same(f.Den, g.Den)
}

func sameExpr(a, b api.Expr) bool {
	return slices.EqualFunc(a, b, func(x, y api.Node) bool {
		return x.Kind == y.Kind && x.Name == y.Name && whole.Same(x.Num, y.Num) && slices.Equal(x.Kids, y.Kids)
	})
}

// draw makes a random expression.
func draw(r *rand.Rand, depth int) api.Expr {
	join := func(kind int, l ...api.Expr) api.Expr {
		var out api.Expr
		var kids []int
		for _, e := range l {
			base := len(out)
			for _, n := range e {
				n.Kids = slices.Clone(n.Kids)
				for i := range n.Kids {
					n.Kids[i] += base
				}
				out = append(out, n)
			}
			kids = append(kids, len(out)-1)
		}
		return append(out, api.Node{Kind: kind, Kids: kids})
	}
	if depth == 0 {
		if r.Intn(2) == 0 {
			return api.Expr{{Kind: api.NodeNum, Num: whole.Of(r.Intn(4))}}
		}
		return api.Expr{{Kind: api.NodeVar, Name: []string{"x", "y", "A1"}[r.Intn(3)]}}
	}
	switch kind := 2 + r.Intn(6); kind {
	case api.NodeNeg:
		return join(kind, draw(r, depth-1))
	case api.NodePow:
		return join(kind, draw(r, depth-1), api.Expr{{Kind: api.NodeNum, Num: whole.Of(r.Intn(4))}})
	default:
		return join(kind, draw(r, r.Intn(depth)), draw(r, depth-1))
	}
}

// P36.1
func TestRight(t *testing.T) {
	num := func(n int) api.Node { return api.Node{Kind: api.NodeNum, Num: whole.Of(n)} }
	x := api.Node{Kind: api.NodeVar, Name: "x"}
	node := func(kind int, kids ...int) api.Node { return api.Node{Kind: kind, Kids: kids} }
	long, _ := whole.Pow(whole.Of(10), 1000)
	for i, c := range []struct {
		e    api.Expr
		want bool
	}{
		{nil, false}, {api.Expr{x}, true}, {api.Expr{x, num(2), node(api.NodePow, 0, 1)}, true}, {api.Expr{x, num(1001), node(api.NodePow, 0, 1)}, false}, {api.Expr{x, x, node(api.NodePow, 0, 1)}, false},
		{api.Expr{x, x, node(api.NodeAdd, 1, 0)}, false}, {api.Expr{x, x, node(api.NodeAdd, 0, 0)}, false}, {api.Expr{x, x}, false}, {api.Expr{x, node(api.NodeAdd, 0, 0)}, false}, {api.Expr{x, node(api.NodeNeg, 0)}, true},
		{api.Expr{x, node(api.NodeNeg, 1)}, false}, {api.Expr{x, node(api.NodeNeg, -1)}, false}, {api.Expr{num(-1)}, false}, {api.Expr{{Kind: api.NodeNum, Num: long}}, false}, {api.Expr{{Kind: api.NodeNum, Num: whole.Sub(long, whole.Of(1))}}, true},
		{api.Expr{{Kind: api.NodeNum, Num: api.Int{Mag: []uint32{0}}}}, false}, {api.Expr{{Kind: api.NodeVar}}, false}, {api.Expr{{Kind: api.NodeVar, Name: "1x"}}, false}, {api.Expr{{Kind: api.NodeVar, Name: strings.Repeat("x", 21)}}, false}, {api.Expr{{Kind: api.NodeVar, Name: strings.Repeat("x", 20)}}, true},
		{api.Expr{{Kind: api.NodeVar, Name: "x_"}}, false}, {api.Expr{{Kind: api.NodeVar, Name: "x", Num: whole.Of(1)}}, false}, {api.Expr{{Kind: api.NodeNum, Name: "x"}}, false}, {api.Expr{x, {Kind: api.NodeNeg, Kids: []int{0}, Name: "x"}}, false}, {api.Expr{x, {Kind: api.NodeNeg, Kids: []int{0}, Num: whole.Of(1)}}, false}, {api.Expr{x, x, {Kind: api.NodeMul, Kids: []int{0, 1}, Num: whole.Of(1)}}, false}, {api.Expr{{Kind: 8}}, false}, {api.Expr{{Kind: -1}}, false},
		{api.Expr{x, x, x, node(api.NodeAdd, 1, 2), node(api.NodeMul, 0, 3)}, true}, {api.Expr{x, x, x, node(api.NodeAdd, 0, 1), node(api.NodeMul, 3, 2)}, false}, {api.Expr{x, x, {Kind: api.NodeAdd, Kids: []int{0, 1}, Name: "x"}}, false},
	} {
		if Right(c.e) != c.want {
			t.Error(i)
		}
	}
	most := api.Expr{x}
	for len(most) < 4000 {
		most = append(most, node(api.NodeNeg, len(most)-1))
	}
	if !Right(most) || Right(append(most, node(api.NodeNeg, 3999))) {
		t.Error("4000")
	}
}

func TestParse(t *testing.T) {
	for s, want := range map[string]string{
		"x":                   "x",
		" ( x + 1 )^2-x*-y  ": "(x + 1)^2 - x*-y",
		"1+2+3":               "1 + 2 + 3",
		"1-(2-3)":             "1 - (2 - 3)",
		"(1-2)-3":             "1 - 2 - 3",
		"a*(b*c)":             "a*(b*c)",
		"a/(b/c)":             "a/(b/c)",
		"(a/b)/c":             "a/b/c",
		"-x^2":                "-x^2",
		"(-x)^2":              "(-x)^2",
		"(x^2)^3":             "(x^2)^3",
		"-(-x)":               "--x",
		"-(x*y)":              "-(x*y)",
		"(-x)*y":              "-x*y",
		"(x+y)*z":             "(x + y)*z",
		"((((x))))":           "x",
		"0007":                "7",
		"000":                 "0",
		"x^0002":              "x^2",
		"-x - -y":             "-x - -y",
		"2^1000":              "2^1000",
		"aZ9+Az0":             "aZ9 + Az0",
		"Z*z*A*a":             "Z*z*A*a",
	} {
		if got := Print(parse(t, s)); got != want {
			t.Errorf("%q: %q, want %q", s, got, want)
		}
	}
	long, name := strings.Repeat("9", 1001), strings.Repeat("x", 21)
	for _, c := range []struct {
		s  string
		at int
		e  api.Errno
	}{
		{"", 0, api.ErrSyntax}, {"   ", 3, api.ErrSyntax}, {"x +", 3, api.ErrSyntax}, {"x + ", 4, api.ErrSyntax}, {"(x", 2, api.ErrSyntax}, {"x)", 1, api.ErrSyntax}, {"()", 1, api.ErrSyntax}, {"x y", 2, api.ErrSyntax},
		{"2x", 1, api.ErrSyntax}, {"x^2^3", 3, api.ErrSyntax}, {"x^-1", 2, api.ErrSyntax}, {"x^y", 2, api.ErrSyntax}, {"x^", 2, api.ErrSyntax}, {"x_1", 1, api.ErrSyntax}, {"$", 0, api.ErrSyntax}, {"x\t", 1, api.ErrSyntax}, {"x + é", 4, api.ErrSyntax},
		{"+x", 0, api.ErrSyntax}, {"x*/y", 2, api.ErrSyntax}, {"(x + 1", 6, api.ErrSyntax}, {"f(x)", 1, api.ErrSyntax}, {"1.5", 1, api.ErrSyntax}, {"-", 1, api.ErrSyntax}, {"x ^ (2)", 4, api.ErrSyntax},
		{long, 0, api.ErrRange}, {"x + " + long, 4, api.ErrRange}, {"x " + long, 2, api.ErrSyntax}, {"x^1001", 2, api.ErrRange}, {"x^" + long, 2, api.ErrRange}, {"x^0" + long[:1000], 2, api.ErrRange}, {name, 0, api.ErrRange}, {"2 " + name, 2, api.ErrSyntax}, {name + " $", 0, api.ErrRange}, {"$ " + name, 0, api.ErrSyntax},
		{strings.Repeat(" ", 4000) + "x", 0, api.ErrRange}, {strings.Repeat("0", 1001), 0, api.ErrRange}, {"x\x00", 1, api.ErrSyntax},
	} {
		e, at, err := Parse(c.s)
		if at != c.at || err != c.e || len(e) != 0 {
			t.Errorf("%.20q: %d %d, want %d %d", c.s, at, err, c.at, c.e)
		}
	}
	parse(t, long[:1000])
	parse(t, strings.Repeat("-", 3999)+"x")
	parse(t, strings.Repeat("(", 1999)+"x"+strings.Repeat(")", 1999))
	parse(t, name[:20])
}

// P36.2, P36.6
func TestPrint(t *testing.T) {
	r := rand.New(rand.NewSource(1))
	for range 2000 {
		e := draw(r, r.Intn(6))
		if !Right(e) {
			t.Fatal("right", e)
		}
		s := Print(e)
		if !sameExpr(parse(t, s), e) {
			t.Fatal("read as it", s)
		}
	}
	if got := Names(parse(t, "b + a*b - A + a1")); !slices.Equal(got, []string{"A", "a", "a1", "b"}) || len(Names(parse(t, "1"))) != 0 {
		t.Error(got)
	}
}

// P36.3, P36.4, P36.6
func TestForm(t *testing.T) {
	r := rand.New(rand.NewSource(2))
	names := []string{"A1", "x", "y", "x"}
	for range 1500 {
		e := draw(r, r.Intn(5))
		f, err := Form(e)
		x := []api.Rat{rat(r.Intn(9)-4, 1), rat(r.Intn(9)-4, 3), rat(r.Intn(9)-4, 2), rat(77, 1)}
		v, ve := Value(e, names, x)
		if err != api.OK {
			if f.Den.N != 0 || len(f.Den.T) != 0 || len(f.Names) != 0 {
				t.Fatal("beside an error")
			}
			if err == api.ErrZero && ve == api.OK {
				t.Fatal("a value where there is no form", Print(e))
			}
			continue
		}
		checkFraction(t, f)
		var point []api.Rat
		for _, name := range f.Names {
			point = append(point, x[slices.Index(names, name)])
		}
		num, _ := mpoly.Value(f.Num, point)
		den, _ := mpoly.Value(f.Den, point)
		if q, e2 := frac.Div(num, den); ve == api.OK && e2 == api.OK && !frac.Same(q, v) {
			t.Fatal("value", Print(e), v, q)
		}
		b := Back(f)
		if g, e := Form(b); !Right(b) || e != api.OK || !sameForm(f, g) {
			t.Fatal("back", Print(b))
		}
	}
	for _, pair := range [][2]string{{"(x^2 - 1)/(x - 1)", "x + 1"}, {"(x + y)^2", "x^2 + 2*x*y + y^2"}, {"x/y/z", "x/(z*y)"}, {"x - x + 3", "6/2"}, {"1/(x - y) + 1/(y - x)", "0"}, {"(2*x + 2)/(4*y)", "(x + 1)/(2*y)"}, {"x^0", "1"}, {"0^0", "1"}, {"(x*y + x)/(y^2 - 1)", "x/(y - 1)"}, {"-(-x)", "x"}, {"(a^3 - b^3)/(a - b)", "a^2 + a*b + b^2"}} {
		if f, g := form(t, pair[0]), form(t, pair[1]); !sameForm(f, g) {
			t.Error(pair, f, g)
		}
	}
	for s, want := range map[string]api.Errno{"a+b+c+d+e+f+g": api.ErrRange, "1/0": api.ErrZero, "1/(x - x)": api.ErrZero, "x^61": api.ErrRange, "x^60*x": api.ErrRange, "1/x^31 + 1/x^30": api.ErrRange, "(x - x)*x^61": api.ErrRange, "1/(x-x) + x^61": api.ErrZero, "x^61 + 1/0": api.ErrRange, "x^60": api.OK, "(x^30)^2": api.OK, "(x^30)^3": api.ErrRange, "a+b+c+d+e+f": api.OK, "2^1000": api.OK, "(1/0)^0": api.ErrZero, "x^60/x^60 + x": api.OK, "a+b+c+d+e+f+g+1/0": api.ErrRange} {
		if f, e := Form(parse(t, s)); e != want || e != api.OK && len(f.Names) != 0 {
			t.Error(s, e)
		}
	}
	if f := form(t, "x - x + y"); !slices.Equal(f.Names, []string{"y"}) || f.Num.N != 1 || f.Den.N != 1 {
		t.Error(f)
	}
	if f := form(t, "3/6"); f.Num.N != 0 || !frac.Same(f.Num.T[0].C, rat(1, 2)) {
		t.Error(f)
	}
}

func checkFraction(t *testing.T, f api.Fraction) {
	t.Helper()
	if !mpoly.Right(f.Num) || !mpoly.Right(f.Den) || f.Num.N != len(f.Names) || f.Den.N != len(f.Names) || len(f.Den.T) == 0 || !slices.IsSorted(f.Names) {
		t.Fatal("may not be", f)
	}
	if lead, _ := mpoly.Lead(f.Den, lex()); !frac.Same(lead.C, rat(1, 1)) || mpoly.Deg(Gcd(f.Num, f.Den)) > 0 {
		t.Fatal("not in lowest terms", f)
	}
	for i := range f.Names {
		if !slices.ContainsFunc(slices.Concat(f.Num.T, f.Den.T), func(t api.Term) bool { return t.E[i] > 0 }) {
			t.Fatal("a variable that stands nowhere", f)
		}
	}
}

func TestBackOfLongNumbers(t *testing.T) {
	long, _ := whole.Pow(whole.Of(7), 1000)
	for range 3 {
		long = whole.Mul(long, long)
	}
	f := api.Fraction{Names: []string{"x"}, Num: api.MPoly{N: 1, T: []api.Term{{E: []int{1}, C: frac.Whole(whole.Neg(long))}, {E: []int{0}, C: api.Rat{Num: whole.Of(2), Den: long}}}}, Den: mpoly.Const(1, rat(1, 1))}
	e := Back(f)
	if g, err := Form(e); !Right(e) || err != api.OK || !sameForm(f, g) {
		t.Error("back", err)
	}
}

func TestValue(t *testing.T) {
	e := parse(t, "x/(y - 1) + 1/x")
	if v, err := Value(e, []string{"x", "y", "x"}, []api.Rat{rat(2, 1), rat(3, 1), rat(0, 1)}); err != api.OK || !frac.Same(v, rat(3, 2)) {
		t.Error(v, err)
	}
	if v, err := Value(e, []string{"x"}, []api.Rat{rat(0, 1)}); err != api.ErrName || len(v.Den.Mag) != 0 {
		t.Error(err)
	}
	if v, err := Value(e, []string{"x", "y"}, []api.Rat{rat(0, 1), rat(2, 1)}); err != api.ErrZero || len(v.Den.Mag) != 0 {
		t.Error(err)
	}
	if v, err := Value(parse(t, "0^0 + 2^10"), nil, nil); err != api.OK || !frac.Same(v, rat(1025, 1)) {
		t.Error(v, err)
	}
}

// P36.5
func TestGcd(t *testing.T) {
	f, g := form(t, "(x + y)*(x - y)^2*(x*y + 3)").Num, form(t, "(x - y)*(x*y + 3)*(x + 2*y)").Num
	want := form(t, "(x - y)*(x*y + 3)").Num
	if d := Gcd(f, g); !mpoly.Same(d, want) {
		t.Error(d)
	}
	zero := api.MPoly{N: 2}
	if d := Gcd(zero, zero); d.N != 2 || len(d.T) != 0 {
		t.Error(d)
	}
	if d := Gcd(zero, mpoly.Scale(f, rat(3, 1))); !mpoly.Same(d, f) {
		t.Error(d)
	}
	if d := Gcd(mpoly.Const(2, rat(4, 1)), f); !mpoly.Same(d, mpoly.Const(2, rat(1, 1))) {
		t.Error(d)
	}
}
