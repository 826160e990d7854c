package shell

import (
	"math/rand"
	"slices"
	"strings"
	"testing"

	"algebrist/api"
	"algebrist/check"
	"algebrist/expr"
	"algebrist/paper"
	"algebrist/whole"
)

// run is the reply to the last of some lines.
func run(t *testing.T, lines ...string) api.Reply {
	t.Helper()
	var s api.State
	var r api.Reply
	for _, line := range lines {
		s, r = Run(s, line)
		if !Right(s) {
			t.Fatal("state", line)
		}
	}
	if r.Paper != "" {
		p, _, e := paper.Read(r.Paper)
		if e != api.OK || check.Check(p) != api.OK {
			t.Fatal("paper", lines, r.Paper)
		}
	}
	return r
}

// P39.2
func TestAnswers(t *testing.T) {
	for line, want := range map[string]string{
		"show (x^2 - 1)/(x - 1)": "x + 1", "show 0": "0", "show -x/2 + 1/3": "-1/2*x + 1/3", "show (a*b^2 - c)/(a + 1)": "(a*b^2 - c)/(a + 1)", "show -1": "-1", "show x - x": "0", "show 6/4": "3/2", "show 1/x": "(1)/(x)", "show y*x": "x*y",
		"diff x^3 + x, x": "3*x^2 + 1", "diff 1/x, x": "(-1)/(x^2)", "diff x^3, y": "0", "diff 5, x": "0", "diff t^2, t": "2*t",
		"gcd 4, 6": "2", "gcd 0, 0": "0", "gcd -4, 6": "2", "gcd x^2 - 1, x^3 - 1": "x - 1", "gcd 4*y, 6": "2", "gcd 0, -2*y": "2*y", "gcd x - x, 6": "6",
		"factor 12": "2^2*3", "factor 1": "1", "factor 1099511627776": "2^40", "factor x^4 + 4": "(x^2 - 2*x + 2)*(x^2 + 2*x + 2)", "factor 2*x": "2*(x)", "factor -x^2 + x": "-1*(x - 1)*(x)", "factor 4*y^2 + 8*y + 4": "4*(y + 1)^2",
		"prime 7": "yes", "prime 8": "no", "prime 0": "no", "prime 1099511627776": "no", "prime 1099511627689": "yes", "prime 14/2": "yes",
		"roots x^2 - 2": "-1.414214, 1.414213", "roots x^2 + 1": "none", "roots 5": "none", "roots (2*y - 1)^2*y": "0.000000, 0.500000",
		"count x^3 - 2*x, -1, 0": "1", "count x^3 - 2*x, -9, 9": "3", "count 7, 0, 1": "0", "approx x^2 - 2, 1, 10": "1.4142135623", "approx x^2 - 2, 0, 0": "-2",
		"det 1, 2; 3, 4": "-2", "det 5": "5", "rank 1, 2; 2, 4": "1", "rank 0": "0", "rank 1, 2, 3": "1", "inverse 1, 2; 3, 4": "-2, 1; 3/2, -1/2", "inverse 2": "1/2",
		"linear 1, 1, 3; 1, -1, 1": "2, 1", "linear 1, 1, 3": "3, 0; -1, 1", "linear 1, 1, 1; 2, 2, 3": "none", "linear 0": "none", "linear 1": "none", "linear 0, 0": "0; 1",
		"in x^2 + y^2; x + y, 2*x*y": "yes", "in x - y; x^2, y^2": "no", "in x^2*y; x^2, y^2": "yes", "in 0; 0": "yes", "in 1; 0": "no", "in a; a - b, b": "yes",
		"basis x^2 - y, x*y - 1": "-x + y^2, x*y - 1, x^2 - y", "basis 0": "none", "basis 3": "1", "basis x, x + 1": "1",
		"points x^2 + y^2 - 5, x*y - 2": "(-2, -1), (-1, -2), (1, 2), (2, 1)", "points x^2 - 2": "none", "points 1": "none", "points 0": "()", "points 2*x - 1": "(1/2)",
		"apart 1/(x^2 - 1)": "(1/2)/(x - 1) + (-1/2)/(x + 1)", "apart x": "x", "apart 0": "0", "apart 1/x^2 + x": "x + (1)/(x)^2", "apart 7/2": "7/2",
		"integrate 1/x": "0; z - 1: x", "integrate 1/x^2": "(-1)/(x)", "integrate 1/(x^2 + 1)": "0; z^2 + 1/4: x + 2*z", "integrate x": "1/2*x^2", "integrate 1/z": "0; t - 1: z", "integrate 1/(z^2 - 1)": "0; t^2 - 1/4: z - 2*t", "integrate 0": "0", "integrate 3": "3*x", "integrate x^60": "1/61*x^61",
		"area 1/x^2, 1, 2": "1/2", "area x, 0, 1": "1/2", "area 3, 1/3, 2/3": "1", "series 1/(1 - x), 3": "1, 1, 1", "series x^2, 2": "0, 0", "series x, 0": "none", "series 5, 2": "5, 0",
		"check (gcdint (4 6) 2 (-1 1))": "yes", "check (gcdint (4 6) 4 (1 0))": "no", "check (nosuch 1 2 3)": "no", "check (gcdint 4 2 (-1 1))": "no",
		"gcd4,6": "2", "show(x)": "x", "show x ": "x", "let f, x^2-1": "x^2 - 1", "let f, 1/0": "1/0", "let f, x^61": "x^61",
	} {
		if r := run(t, line); r.Err != api.OK || r.At != 0 || r.Text != want {
			t.Errorf("%q: %q %d, want %q", line, r.Text, r.Err, want)
		}
	}
}

func TestErrors(t *testing.T) {
	for _, c := range []struct {
		line string
		e    api.Errno
		at   int
	}{
		{"", api.ErrName, 0}, {" gcd 4, 6", api.ErrName, 0}, {"Gcd 4, 6", api.ErrName, 0}, {"gcdx 4, 6", api.ErrName, 0}, {"nosuch $", api.ErrName, 0},
		{"gcd 4", api.ErrArg, 0}, {"gcd 4, 6, 8", api.ErrArg, 0}, {"gcd 4; 6", api.ErrArg, 0}, {"gcd $", api.ErrArg, 0}, {"show x; y", api.ErrArg, 0}, {"in x", api.ErrArg, 0}, {"in x, y; z", api.ErrArg, 0}, {"in x; y; z", api.ErrArg, 0}, {"in x; 1,2,3,4,5,6,7,8,9,10,11", api.ErrArg, 0}, {"basis 1,2,3,4,5,6,7,8,9,10,11", api.ErrArg, 0}, {"basis x; y", api.ErrArg, 0},
		{"show", api.ErrSyntax, 4}, {"show ", api.ErrSyntax, 5}, {"gcd 4, $", api.ErrSyntax, 7}, {"gcd 4 5, 1", api.ErrSyntax, 6}, {"gcd 4,", api.ErrSyntax, 6}, {"det 1, 2; 3, ", api.ErrSyntax, 13}, {"det 1;", api.ErrSyntax, 6}, {"show x^1001", api.ErrRange, 7}, {"det 1, 2; x y", api.ErrSyntax, 12}, {"let 1, $", api.ErrSyntax, 7},
		{"gcd 1/0, 1/0", api.ErrZero, 0}, {"show x^61", api.ErrRange, 0}, {"gcd x^61, 1/0", api.ErrRange, 0}, {"det 1, 2; 1/0", api.ErrZero, 0}, {"show a+b+c+d+e+f+g", api.ErrRange, 0}, {"diff 1/0, 3", api.ErrZero, 0},
		{"let 1, x", api.ErrKind, 0}, {"let x + 1, x", api.ErrKind, 0}, {"diff x*y, x", api.ErrKind, 0}, {"diff x, 1", api.ErrKind, 0}, {"diff x, x + 1", api.ErrKind, 0},
		{"gcd x, y", api.ErrKind, 0}, {"gcd x/2, x", api.ErrKind, 0}, {"gcd 1/x, x", api.ErrKind, 0}, {"gcd 1/2, 2", api.ErrKind, 0},
		{"factor 0", api.ErrRange, 0}, {"factor -4", api.ErrRange, 0}, {"factor 1099511627777", api.ErrRange, 0}, {"factor 1/2", api.ErrKind, 0}, {"factor x*y", api.ErrKind, 0}, {"factor x^41", api.ErrRange, 0}, {"factor x + 2^1000", api.ErrRange, 0},
		{"prime x", api.ErrKind, 0}, {"prime 1/2", api.ErrKind, 0}, {"prime -1", api.ErrRange, 0}, {"prime 1099511627777", api.ErrRange, 0},
		{"roots 0", api.ErrZero, 0}, {"roots x^41", api.ErrRange, 0}, {"roots x/2", api.ErrKind, 0}, {"count x, y, 1", api.ErrKind, 0}, {"count x, 1, 0", api.ErrArg, 0}, {"count 0, 1, 0", api.ErrArg, 0}, {"count 0, 0, 1", api.ErrZero, 0}, {"count x/2, 0, 1", api.ErrKind, 0},
		{"approx x, 0, 101", api.ErrArg, 0}, {"approx x, 1, 1", api.ErrNone, 0}, {"approx 0, 1, 1", api.ErrZero, 0}, {"approx x, -1, 1", api.ErrKind, 0}, {"approx x, 1001, 1", api.ErrKind, 0}, {"approx x, 0, 1/2", api.ErrKind, 0}, {"approx x/2, 0, 0", api.ErrKind, 0},
		{"approx x, 0, 1000", api.ErrArg, 0}, {"series x, 1000", api.ErrRange, 0}, {"approx x, 1000, 0", api.ErrNone, 0},
		{"det 1, 2", api.ErrArg, 0}, {"det 1, 2; 3", api.ErrArg, 0}, {"det 1, x; 3", api.ErrArg, 0}, {"det x", api.ErrKind, 0}, {"det 1, x", api.ErrKind, 0}, {"rank x", api.ErrKind, 0}, {"rank 1; 2, 3", api.ErrArg, 0}, {"inverse 1, 2; 2, 4", api.ErrNone, 0}, {"inverse 1, 2", api.ErrArg, 0}, {"linear x, 1", api.ErrKind, 0},
		{"rank 1" + strings.Repeat(",1", 40), api.ErrArg, 0}, {"rank 1" + strings.Repeat(";1", 40), api.ErrArg, 0},
		{"in 1/x; x", api.ErrKind, 0}, {"in a+b+c+d; e+f+g", api.ErrRange, 0}, {"basis 1/x", api.ErrKind, 0}, {"points x - y", api.ErrNone, 0}, {"points 1/x", api.ErrKind, 0},
		{"apart x/y", api.ErrKind, 0}, {"apart 1/x^41", api.ErrRange, 0}, {"integrate x*y", api.ErrKind, 0}, {"integrate 1/x^41", api.ErrRange, 0}, {"area 1/x, 0, 1", api.ErrZero, 0}, {"area 1/x, 1, 2", api.ErrNone, 0}, {"area x, 1, 0", api.ErrArg, 0}, {"area x, y, 0", api.ErrKind, 0}, {"area x*y, 0, 0", api.ErrKind, 0},
		{"series 1/x, 3", api.ErrZero, 0}, {"series x, 61", api.ErrRange, 0}, {"series x, 1001", api.ErrKind, 0}, {"series x, y", api.ErrKind, 0}, {"series 1/x, 61", api.ErrRange, 0},
		{"check", api.ErrSyntax, 5}, {"check(a 1 2 3)", api.ErrSyntax, 5}, {"check ", api.ErrSyntax, 6}, {"check (a 1 2 3", api.ErrSyntax, 14}, {"check (a 01 2 3)", api.ErrSyntax, 10}, {"check (a 1 2 3)\n", api.ErrSyntax, 16}, {"check (a " + strings.Repeat("9", 1001) + " 2 3)", api.ErrRange, 1009},
		{"show x" + strings.Repeat(" ", 4000), api.ErrRange, 0}, {strings.Repeat("?", 4001), api.ErrRange, 0}, {"show " + strings.Repeat("-", 2000) + "x", api.ErrRange, 0}, {"let x, " + strings.Repeat("-", 2000) + "x", api.ErrRange, 0}, {"let " + strings.Repeat("-", 2000) + "x, $", api.ErrSyntax, 2007},
	} {
		r := run(t, c.line)
		if r.Err != c.e || r.At != c.at || r.Text != "" || r.Paper != "" {
			t.Errorf("%.40q: %d at %d, want %d at %d (%s)", c.line, r.Err, r.At, c.e, c.at, r.Text)
		}
	}
	ones := strings.Repeat(",1", 39)
	for line, want := range map[string]string{
		"in a+b+c; d+e+f": "no", "rank 1" + ones: "1", "rank 1" + strings.Repeat(";1", 39): "1", "show x" + strings.Repeat(" ", 3994): "x", "roots x^40": "0.000000", "show " + strings.Repeat("-", 1998) + "x": "x",
		"det 1" + ones + strings.Repeat(";1"+ones, 39): "0",
	} {
		if r := run(t, line); r.Err != api.OK || r.Text != want {
			t.Error(line, r)
		}
	}
	if r := run(t, "show "+strings.Repeat("-", 1999)+"x"); r.Err != api.OK {
		t.Error(r)
	}
}

// P39.1, P39.2
func TestState(t *testing.T) {
	if r := run(t, "let f, x^2 - 1", "factor f"); r.Text != "(x - 1)*(x + 1)" {
		t.Error(r)
	}
	if r := run(t, "let x, y", "let y, x + 1", "show x + y"); r.Text != "2*y + 1" {
		t.Error(r)
	}
	if r := run(t, "let x, x + 1", "let x, x + 1", "show x"); r.Text != "x + 2" {
		t.Error(r)
	}
	// Raw names aren't replaced.
	if r := run(t, "let x, 5", "diff y^2, y"); r.Text != "2*y" {
		t.Error(r)
	}
	if r := run(t, "let x, 5", "diff x^2, x"); r.Text != "0" {
		t.Error(r)
	}
	var s api.State
	for i := range 100 {
		s, _ = Run(s, "let a"+string(rune('0'+i/10))+string(rune('0'+i%10))+", x")
	}
	if len(s) != 100 || !Right(s) {
		t.Fatal(len(s))
	}
	before := slices.Clone(s)
	if n, r := Run(s, "let b, x"); r.Err != api.ErrRange || !Same(n, s) {
		t.Error(r)
	}
	if n, r := Run(s, "let a00, 1/0"); r.Err != api.OK || r.Text != "1/0" || len(n) != 100 || Same(n, s) || !Same(s, before) {
		t.Error(r)
	}
	if n, r := Run(s, "gcd a00"); r.Err != api.ErrArg || !Same(n, s) {
		t.Error(r)
	}
	// What is replaced may be just so long, or too long.
	s, _ = Run(nil, "let a, "+strings.Repeat("-", 998)+"x")
	if _, r := Run(s, "show -a+a"); r.Err != api.OK || r.Text != "0" {
		t.Error(r)
	}
	if _, r := Run(s, "show --a+a"); r.Err != api.ErrRange {
		t.Error(r)
	}
	s, _ = Run(nil, "let a, "+strings.Repeat("x+", 300)+"x")
	if _, r := Run(s, "show a+a+a+a"); r.Err != api.ErrRange {
		t.Error(r.Err)
	}
	if _, r := Run(s, "show a+a+a"); r.Err != api.OK {
		t.Error(r.Err)
	}
	x, _, _ := expr.Parse("x")
	for i, c := range []struct {
		s    api.State
		want bool
	}{{nil, true}, {api.State{{Name: "a", E: x}, {Name: "b", E: x}}, true}, {api.State{{Name: "b", E: x}, {Name: "a", E: x}}, false}, {api.State{{Name: "a", E: x}, {Name: "a", E: x}}, false}, {api.State{{Name: "1", E: x}}, false}, {api.State{{Name: "", E: x}}, false}, {api.State{{Name: "a"}}, false}, {append(slices.Clone(before), api.Binding{Name: "b", E: x}), false}, {api.State{{Name: "B", E: x}, {Name: "a", E: x}}, true}, {api.State{{Name: strings.Repeat("a", 21), E: x}}, false}} {
		if Right(c.s) != c.want {
			t.Error(i)
		}
	}
	one := api.State{{Name: "a", E: x}}
	two := api.State{{Name: "a", E: api.Expr{{Kind: api.NodeNum, Num: whole.Of(1)}}}}
	y, _, _ := expr.Parse("y")
	sum, _, _ := expr.Parse("x + y")
	less, _, _ := expr.Parse("x - y")
	with := func(e api.Expr) api.State { return api.State{{Name: "a", E: e}} }
	if Same(one, with(y)) || Same(with(sum), with(less)) || Same(two, with(api.Expr{{Kind: api.NodeNum, Num: whole.Of(2)}})) || !Same(with(sum), with(slices.Clone(sum))) {
		t.Error("same nodes")
	}
	if Same(one, two) || Same(one, nil) || !Same(one, api.State{{Name: "a", E: slices.Clone(x)}}) || Same(one, api.State{{Name: "b", E: x}}) {
		t.Error("same")
	}
	if !SameReply(api.Reply{Text: "a"}, api.Reply{Text: "a"}) || SameReply(api.Reply{Text: "a"}, api.Reply{Paper: "a"}) || SameReply(api.Reply{Err: 1}, api.Reply{}) || SameReply(api.Reply{At: 1}, api.Reply{}) {
		t.Error("same reply")
	}
}

// P39.2, P39.3: of a small line each paper is there, and accepted.
func TestSmallLines(t *testing.T) {
	r := rand.New(rand.NewSource(1))
	num := func() string { return []string{"0", "1", "2", "3", "7", "1/2", "18446744073709551615"}[r.Intn(7)] }
	poly := func(names string, top int) string {
		s := num()
		for range 1 + r.Intn(3) {
			s += []string{" + ", " - "}[r.Intn(2)] + num()
			s += "*" + string(names[r.Intn(len(names))])
			if top > 1 && r.Intn(2) == 0 {
				s += "^" + string(rune('1'+r.Intn(top)))
			}
		}
		return s
	}
	for range 300 {
		for verb, line := range map[string]string{
			"gcd": "gcd (" + poly("x", 3) + ")*(x - 1), x^2 - 1", "factor": "factor (" + poly("x", 4) + ")*x", "roots": "roots " + poly("y", 8), "count": "count " + poly("x", 8) + ", -3, 1/2",
			"inverse": "inverse " + num() + ", " + num() + "; " + num() + ", " + num(), "linear": "linear " + num() + ", " + num() + "; " + num() + ", " + num(),
			"in": "in " + poly("xy", 2) + "; " + poly("xy", 2) + ", " + poly("xy", 2), "basis": "basis " + poly("xy", 2) + ", " + poly("xy", 2),
			"apart": "apart 1/(" + poly("x", 4) + ")", "integrate": "integrate x/(" + poly("x", 3) + ")",
		} {
			reply := run(t, line)
			if len(line) > 120 || reply.Err == api.ErrKind || reply.Err == api.ErrZero || reply.Err == api.ErrNone || verb == "factor" && run(t, strings.Replace(line, "factor", "show", 1)).Text == "0" {
				continue
			}
			if reply.Err != api.OK || reply.Paper == "" {
				t.Fatalf("%s: %q: %d", verb, line, reply.Err)
			}
			again := run(t, line)
			if !SameReply(reply, again) {
				t.Fatal("hangs on the line alone", line)
			}
		}
	}
	for line, has := range map[string]bool{"prime 7": true, "prime 8": false, "gcd 4, 6": true, "factor 12": false, "factor x": true, "show x": false, "det 1": false, "rank 1": false, "points x": false, "area x, 0, 1": false, "series x, 1": false, "approx x, 0, 1": false, "let x, 1": false, "diff x, x": false, "check (a 1 2 3)": false} {
		if reply := run(t, line); (reply.Paper != "") != has {
			t.Error(line, reply)
		}
	}
	if reply := run(t, "gcd 4, 6"); reply.Paper != "(gcdint (4 6) 2 (-1 1))\n" {
		t.Error(reply.Paper)
	}
}

// Any bytes are a line.
func TestAnyBytes(t *testing.T) {
	r := rand.New(rand.NewSource(2))
	words := []string{"let ", "show", "gcd ", "factor ", "x", "y", "^", "2", "+", "-", "*", "/", "(", ")", ",", ";", " ", "7", "\x00", "é", "count ", "det ", "check ", "in ", "series "}
	var s api.State
	for range 3000 {
		line := ""
		for range r.Intn(10) {
			line += words[r.Intn(len(words))]
		}
		next, reply := Run(s, line)
		if reply.Err != api.OK && (!Same(next, s) || reply.Text != "" || reply.Paper != "") {
			t.Fatal(line)
		}
		s = next
	}
}
