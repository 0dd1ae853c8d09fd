package ast_test

import (
	"math"
	"slices"
	"strings"
	"testing"

	"custos/api"
	"custos/ast"
)

type formula = api.Formula

func v(name string) api.Term { return api.Term{Kind: api.Var, Name: name} }

func con(c api.Value) api.Term { return api.Term{Kind: api.Const, Value: c} }

func num(n int64) api.Term { return con(api.Value{Kind: api.Int, N: n}) }

func rat(n, d int64) api.Term { return con(api.Value{Kind: api.Rat, N: n, D: d}) }

func str(s string) api.Term { return con(api.Value{Kind: api.Str, S: s}) }

func two(kind int, a, b api.Term) api.Term { return api.Term{Kind: kind, Subs: []api.Term{a, b}} }

func yes() formula { return formula{Kind: api.True} }

func pred(name string, terms ...api.Term) formula {
	return formula{Kind: api.Pred, Name: name, Terms: terms}
}

// p is a predicate of variables alone.
func p(vars ...string) formula {
	g := pred("p")
	for _, x := range vars {
		g.Terms = append(g.Terms, v(x))
	}
	return g
}

func cmpOf(kind int, a, b api.Term) formula {
	return formula{Kind: kind, Terms: []api.Term{a, b}}
}

func of(kind int, subs ...formula) formula { return formula{Kind: kind, Subs: subs} }

func not(g formula) formula { return of(api.Not, g) }

func and(g, h formula) formula { return of(api.And, g, h) }

func within(lo, hi int64) api.Interval { return api.Interval{Lo: lo, Hi: hi} }

func from(lo int64) api.Interval { return api.Interval{Lo: lo, Open: true} }

func timed(kind int, i api.Interval, subs ...formula) formula {
	return formula{Kind: kind, I: i, Subs: subs}
}

func matched(kind int, i api.Interval, r ...api.Regex) formula {
	return formula{Kind: kind, I: i, Regex: r}
}

func before(r api.Regex) formula { return matched(api.Before, within(0, 9), r) }

func anyStep() api.Regex { return api.Regex{Kind: api.Any} }

func test(g ...formula) api.Regex { return api.Regex{Kind: api.Test, Test: g} }

func regex(kind int, subs ...api.Regex) api.Regex { return api.Regex{Kind: kind, Subs: subs} }

func exists(g formula, vars ...string) formula {
	return formula{Kind: api.Exists, Vars: vars, Subs: []formula{g}}
}

func agg(y string, op int, g formula, vars ...string) formula {
	return formula{Kind: api.Agg, Name: y, Op: op, Vars: vars, Subs: []formula{g}}
}

func let(kind int, r string, g, h formula, vars ...string) formula {
	return formula{Kind: kind, Name: r, Vars: vars, Subs: []formula{g, h}}
}

// letters are the first n names of one letter.
func letters(n int) []string {
	var l []string
	for i := range n {
		l = append(l, "abcdefghijklmnopqrstuvwxyz"[i:i+1])
	}
	return l
}

// few is n variables in predicates that take six each.
func few(n int) formula {
	g := of(api.Join)
	for l := letters(n); len(l) > 0; l = l[min(6, len(l)):] {
		g.Subs = append(g.Subs, p(l[:min(6, len(l))]...))
	}
	return g
}

func checks(t *testing.T, g formula, e api.Errno) {
	t.Helper()
	if got := ast.Check(g); got != e {
		t.Errorf("%.300v: %d, want %d", g, got, e)
	}
}

// says asks for what is told of a formula that may be.
func says(t *testing.T, g formula, free string, nodes, depth int) {
	t.Helper()
	if e := ast.Check(g); e != api.OK {
		t.Errorf("%v: %d", g, e)
	}
	if got := strings.Join(ast.Free(g), " "); got != free {
		t.Errorf("%v: free %q, want %q", g, got, free)
	}
	if n, d := ast.Nodes(g), ast.Depth(g); n != nodes || d != depth {
		t.Errorf("%v: %d nodes, depth %d, want %d, %d", g, n, d, nodes, depth)
	}
}

// refused asks all calls that tell nothing of a formula that may not be.
func refused(t *testing.T, g formula, e api.Errno) {
	t.Helper()
	checks(t, g, e)
	if l := ast.Free(g); len(l) != 0 {
		t.Errorf("%.300v: free %v", g, l)
	}
	if n, d := ast.Nodes(g), ast.Depth(g); n != 0 || d != 0 {
		t.Errorf("%.300v: %d nodes, depth %d", g, n, d)
	}
	for _, path := range [][]int{nil, {0}, {-1}, {0, 0}, {7}} {
		if part, got := ast.Part(g, path); got != e || !blank(part) {
			t.Errorf("%.300v: part %v is %v, %d, want the error %d", g, path, part, got, e)
		}
	}
}

func blank(f formula) bool {
	return f.Kind == 0 && f.Name == "" && f.Op == 0 && f.I == api.Interval{} && len(f.Vars)+len(f.Terms)+len(f.Subs)+len(f.Regex) == 0
}

// leads asks for a part.
func leads(t *testing.T, g formula, want formula, path ...int) {
	t.Helper()
	if part, e := ast.Part(g, path); e != api.OK || !alike(part, want) {
		t.Errorf("%v: part %v is %v, %d, want %v", g, path, part, e, want)
	}
}

func leadsNowhere(t *testing.T, g formula, path ...int) {
	t.Helper()
	if part, e := ast.Part(g, path); e != api.ErrRange || !blank(part) {
		t.Errorf("%v: part %v is %v, %d, want %d", g, path, part, e, api.ErrRange)
	}
}

// TestExamples: P6.2 to P6.5, the chapter's table.
func TestExamples(t *testing.T) {
	less := cmpOf(api.Less, v("x"), num(3))
	second := and(p("x", "y"), less)
	says(t, yes(), "", 1, 1)
	says(t, second, "x y", 7, 3)
	says(t, exists(p("x", "y"), "x"), "y", 4, 3)
	says(t, agg("n", api.Cnt, p("x", "y"), "x", "y"), "n y", 4, 3)
	says(t, let(api.Let, "r", p("x", "y"), pred("r", v("z")), "x"), "z", 6, 3)
	says(t, before(regex(api.Seq, test(p("x")), anyStep())), "x", 6, 5)
	refused(t, of(api.And, yes()), api.ErrArg)
	refused(t, pred("And"), api.ErrArg)
	refused(t, pred("not"), api.ErrArg)
	refused(t, exists(p("x")), api.ErrArg)
	refused(t, formula{Kind: api.True, Name: "x"}, api.ErrArg)
	refused(t, exists(p("x"), "x", "x"), api.ErrVars)
	refused(t, agg("y", api.Sum, p("x", "y"), "x", "y"), api.ErrVars)
	refused(t, formula{Kind: 23}, api.ErrKind)
	refused(t, formula{}, api.ErrKind)
	refused(t, timed(api.Prev, within(5, 3), yes()), api.ErrArg)
	refused(t, p(letters(7)...), api.ErrMany)
	leads(t, second, less, 1)
	leads(t, second, p("x", "y"), 0)
	leadsNowhere(t, second, 2)
	leadsNowhere(t, second, 0, 0)
}

func reserved() []string {
	return []string{"true", "false", "not", "and", "or", "exists", "prev", "next", "once", "soon", "since", "until", "before", "after", "agg", "let", "letpast", "join", "any", "test", "alt", "seq", "star"}
}

// TestName: P6.1, each byte at each place, each word that is taken, and how long a name may be.
func TestName(t *testing.T) {
	for i := range 256 {
		c := byte(i)
		letter := c >= 'a' && c <= 'z'
		inside := letter || c >= '0' && c <= '9' || c == '_'
		for s, want := range map[string]bool{
			string([]byte{c}): letter, string([]byte{c, 'x'}): letter,
			string([]byte{'x', c}): inside, string([]byte{'x', c, 'x'}): inside, strings.Repeat("x", 15) + string([]byte{c}): inside,
		} {
			if ast.Name(s) != want {
				t.Errorf("%q", s)
			}
		}
	}
	for _, s := range reserved() {
		if ast.Name(s) {
			t.Errorf("%q is taken", s)
		}
		for _, other := range []string{s + "s", s + "_", s + "0", "x" + s, "x_" + s, s + s} {
			if ast.Name(other) != (len(other) <= 16) {
				t.Errorf("%q", other)
			}
		}
		for i := 1; i < len(s); i++ {
			if part := s[:i]; ast.Name(part) == slices.Contains(reserved(), part) {
				t.Errorf("%q", part)
			}
		}
	}
	for s, want := range map[string]bool{
		"": false, "a": true, "z": true, "a_9": true, "sum": true, "cnt": true, "int": true, "str": true, "forall": true, "always": true, "if": true, "a__": true, "p1": true,
		"abcdefghijklmnop": true, "abcdefghijklmnopq": false, "qrstuvwxyz_01234": true, "z56789zzzzzzzzzz": true, strings.Repeat("a", 15): true, strings.Repeat("a", 1<<16): false,
		" a": false, "a ": false, "a b": false, "a\n": false, "True": false, "nOt": false, "é": false, "aé": false, "a-b": false, "a.b": false, "\x00": false, "a\x00": false, "_": false, "0a": false,
	} {
		if ast.Name(s) != want {
			t.Errorf("%q", s)
		}
	}
}

// simple is a formula of each kind, as small as may be, by its kind.
func simple() []formula {
	i := within(1, 2)
	return []formula{
		{}, yes(), {Kind: api.False}, p(), cmpOf(api.Equal, v("x"), num(1)), cmpOf(api.Less, v("x"), num(1)), cmpOf(api.AtMost, v("x"), num(1)),
		not(yes()), and(yes(), yes()), of(api.Or, yes(), yes()), exists(yes(), "x"),
		timed(api.Prev, i, yes()), timed(api.Next, i, yes()), timed(api.Once, i, yes()), timed(api.Soon, i, yes()), timed(api.Since, i, yes(), yes()), timed(api.Until, i, yes(), yes()),
		matched(api.Before, i, anyStep()), matched(api.After, i, anyStep()), agg("y", api.Sum, yes(), "x"), let(api.Let, "r", yes(), yes()), let(api.LetPast, "r", yes(), yes()), of(api.Join, yes()),
	}
}

// TestKinds: P6.2, P6.5, each kind of formulas, terms and regexes, and those beside them.
func TestKinds(t *testing.T) {
	nodes := []int{0, 1, 1, 1, 3, 3, 3, 2, 3, 3, 2, 2, 2, 2, 2, 3, 3, 2, 2, 2, 3, 3, 2}
	for kind, g := range simple() {
		if g.Kind != kind {
			t.Fatal(kind, g)
		}
		if kind == 0 {
			continue
		}
		checks(t, g, api.OK)
		if n, d := ast.Nodes(g), ast.Depth(g); n != nodes[kind] || d != min(2, n) {
			t.Error(kind, n, d)
		}
	}
	for _, kind := range []int{0, -1, -2, 23, 24, 100, math.MaxInt, math.MinInt} {
		refused(t, formula{Kind: kind}, api.ErrKind)
		refused(t, not(formula{Kind: kind}), api.ErrKind)
		refused(t, before(test(formula{Kind: kind})), api.ErrKind)
	}
	for kind, s := range []api.Term{1: v("x"), 2: num(1), 3: two(3, num(1), v("x")), 4: two(4, num(1), v("x")), 5: two(5, num(1), v("x"))} {
		if kind == 0 {
			continue
		}
		checks(t, pred("p", s), api.OK)
		checks(t, cmpOf(api.Equal, s, s), api.OK)
		checks(t, cmpOf(api.Less, s, two(api.Mul, s, s)), api.OK)
	}
	for _, kind := range []int{0, -1, 6, 7, 22, math.MaxInt, math.MinInt} {
		refused(t, pred("p", api.Term{Kind: kind}), api.ErrKind)
		refused(t, pred("p", v("x"), two(api.Add, num(1), api.Term{Kind: kind, Name: "x"})), api.ErrKind)
		refused(t, cmpOf(api.Equal, v("x"), two(kind, v("x"), v("x"))), api.ErrKind)
		refused(t, before(api.Regex{Kind: kind}), api.ErrKind)
		refused(t, before(regex(api.Alt, anyStep(), regex(kind, anyStep()))), api.ErrKind)
	}
	for _, r := range []api.Regex{anyStep(), test(yes()), regex(api.Alt, anyStep(), anyStep()), regex(api.Seq, anyStep(), anyStep()), regex(api.Star, anyStep())} {
		checks(t, before(r), api.OK)
		checks(t, matched(api.After, from(0), regex(api.Star, r)), api.OK)
	}
}

// fills are a formula with one field more that says something, whether or not its kind uses that.
func fills() map[string]func(formula) formula {
	return map[string]func(formula) formula{
		"Name":  func(g formula) formula { g.Name = "x"; return g },
		"Op":    func(g formula) formula { g.Op = api.Cnt; return g },
		"Vars":  func(g formula) formula { g.Vars = []string{"z"}; return g },
		"Terms": func(g formula) formula { g.Terms = []api.Term{v("z")}; return g },
		"Lo":    func(g formula) formula { g.I.Lo = 1; return g },
		"Hi":    func(g formula) formula { g.I.Hi = 3; return g },
		"Open":  func(g formula) formula { g.I = from(0); return g },
		"Subs":  func(g formula) formula { g.Subs = []formula{yes()}; return g },
		"Regex": func(g formula) formula { g.Regex = []api.Regex{anyStep()}; return g },
	}
}

// uses are the fields of fills that each kind uses; where two of a list must be, one that is put in is too few.
func uses(kind int) string {
	switch kind {
	case api.Pred:
		return "Name Terms"
	case api.Not, api.Join:
		return "Subs"
	case api.Exists:
		return "Vars Subs"
	case api.Prev, api.Next, api.Once, api.Soon:
		return "Lo Hi Open Subs"
	case api.Since, api.Until:
		return "Lo Hi Open"
	case api.Before, api.After:
		return "Lo Hi Open Regex"
	case api.Agg:
		return "Name Op Vars Subs"
	case api.Let, api.LetPast:
		return "Name Vars"
	}
	return ""
}

// TestUnused: P6.2, a field that a kind doesn't use and that is not zero, for each kind and field.
func TestUnused(t *testing.T) {
	for kind, g := range simple() {
		for name, fill := range fills() {
			e := api.ErrArg
			if kind == 0 {
				e = api.ErrKind
			} else if slices.Contains(strings.Fields(uses(kind)), name) {
				e = api.OK
			}
			if got := ast.Check(fill(g)); got != e {
				t.Error(kind, name, got)
			}
		}
	}
	for _, g := range []formula{{Kind: api.True, Vars: letters(9)}, {Kind: api.Not, Subs: []formula{yes()}, Terms: make([]api.Term, 7)}, {Kind: api.Pred, Name: "p", Vars: letters(9)}} {
		refused(t, g, api.ErrArg)
	}
	for _, s := range []api.Term{
		{Kind: api.Var, Name: "x", Value: api.Value{Kind: api.Int}}, {Kind: api.Var, Name: "x", Value: api.Value{N: 1}}, {Kind: api.Var, Name: "x", Value: api.Value{D: 1}}, {Kind: api.Var, Name: "x", Value: api.Value{S: "x"}}, {Kind: api.Var, Name: "x", Subs: []api.Term{v("x")}}, {Kind: api.Var, Name: "x", Subs: []api.Term{v("x"), v("y")}},
		{Kind: api.Const, Value: api.Value{Kind: api.Int}, Name: "x"}, {Kind: api.Const, Value: api.Value{Kind: api.Int}, Subs: []api.Term{num(1)}}, {Kind: api.Const, Value: api.Value{Kind: api.Int}, Subs: []api.Term{num(1), num(2)}}, {Kind: api.Const, Name: "x"}, {Kind: api.Const, Subs: []api.Term{num(1)}},
		{Kind: api.Add, Name: "x", Subs: []api.Term{v("x"), v("x")}}, {Kind: api.Sub, Value: api.Value{Kind: api.Str}, Subs: []api.Term{v("x"), v("x")}}, {Kind: api.Mul, Value: api.Value{N: 1}, Subs: []api.Term{v("x"), v("x")}},
		{Kind: api.Var}, {Kind: api.Var, Name: "X"}, {Kind: api.Var, Name: "not"}, {Kind: api.Var, Name: strings.Repeat("x", 17)},
		{Kind: api.Add}, {Kind: api.Mul, Subs: []api.Term{v("x")}}, {Kind: api.Sub, Subs: []api.Term{v("x"), v("x"), v("x")}},
	} {
		refused(t, pred("p", s), api.ErrArg)
		refused(t, cmpOf(api.AtMost, two(api.Add, s, v("x")), api.Term{}), api.ErrArg)
	}
	for _, r := range []api.Regex{
		{Kind: api.Any, Test: []formula{yes()}}, {Kind: api.Any, Subs: []api.Regex{anyStep()}},
		{Kind: api.Test}, test(yes(), yes()), {Kind: api.Test, Test: []formula{yes()}, Subs: []api.Regex{anyStep()}}, {Kind: api.Test, Subs: []api.Regex{anyStep()}},
		regex(api.Alt), regex(api.Alt, anyStep()), regex(api.Alt, anyStep(), anyStep(), anyStep()), {Kind: api.Alt, Test: []formula{yes()}, Subs: []api.Regex{anyStep(), anyStep()}},
		regex(api.Seq), regex(api.Seq, anyStep()), regex(api.Seq, anyStep(), anyStep(), anyStep()), {Kind: api.Seq, Test: []formula{yes()}, Subs: []api.Regex{anyStep(), anyStep()}},
		regex(api.Star), regex(api.Star, anyStep(), anyStep()), {Kind: api.Star, Test: []formula{yes()}, Subs: []api.Regex{anyStep()}},
	} {
		refused(t, before(r), api.ErrArg)
		refused(t, before(regex(api.Seq, regex(api.Star, r), regex(0))), api.ErrArg)
	}
}

// TestCounts: P6.2, how many there are of what a kind uses: too few, just enough, one too many.
func TestCounts(t *testing.T) {
	subs := func(n int) []formula {
		l := make([]formula, n)
		for i := range l {
			l[i] = yes()
		}
		return l
	}
	wants := map[int]int{api.Not: 1, api.And: 2, api.Or: 2, api.Exists: 1, api.Prev: 1, api.Next: 1, api.Once: 1, api.Soon: 1, api.Since: 2, api.Until: 2, api.Agg: 1, api.Let: 2, api.LetPast: 2}
	for kind, g := range simple() {
		if want := wants[kind]; want > 0 {
			for n := range 5 {
				e := api.ErrArg
				if n == want {
					e = api.OK
				}
				g.Subs = subs(n)
				checks(t, g, e)
			}
		}
	}
	refused(t, of(api.Join), api.ErrArg)
	for n := 1; n < 5; n++ {
		checks(t, of(api.Join, subs(n)...), api.OK)
	}
	for n := range 5 {
		e := api.ErrArg
		if n == 2 {
			e = api.OK
		}
		l := []api.Term{v("x"), v("y"), num(1), num(2)}[:n]
		for _, kind := range []int{api.Equal, api.Less, api.AtMost} {
			checks(t, formula{Kind: kind, Terms: l}, e)
		}
	}
	for _, kind := range []int{api.Equal, api.Less, api.AtMost} {
		refused(t, formula{Kind: kind, Terms: make([]api.Term, 7)}, api.ErrArg)
	}
	for _, kind := range []int{api.Before, api.After} {
		refused(t, matched(kind, from(0)), api.ErrArg)
		checks(t, matched(kind, from(0), anyStep()), api.OK)
		refused(t, matched(kind, from(0), anyStep(), anyStep()), api.ErrArg)
	}
	for op := -1; op <= 8; op++ {
		e := api.ErrArg
		if op >= 1 && op <= 6 {
			e = api.OK
		}
		checks(t, agg("y", op, p("x"), "x"), e)
	}
	refused(t, agg("y", math.MaxInt, p("x"), "x"), api.ErrArg)
	refused(t, agg("y", math.MinInt, p("x"), "x"), api.ErrArg)
	refused(t, agg("y", api.Sum, p("x")), api.ErrArg)
}

// TestArgs: P6.2, MaxArgs and MaxVars, and one more.
func TestArgs(t *testing.T) {
	for n := range 9 {
		e := api.OK
		if n > 6 {
			e = api.ErrMany
		}
		checks(t, p(letters(n)...), e)
		checks(t, let(api.Let, "r", yes(), yes(), letters(n)...), e)
		checks(t, let(api.LetPast, "r", yes(), yes(), letters(n)...), e)
	}
	for n := 1; n < 12; n++ {
		e := api.OK
		if n > 8 {
			e = api.ErrMany
		}
		checks(t, exists(yes(), letters(n)...), e)
		checks(t, agg("z", api.Cnt, yes(), letters(n)...), e)
	}
	refused(t, pred("p", make([]api.Term, 1<<16)...), api.ErrMany)
	refused(t, exists(yes(), make([]string, 1<<16)...), api.ErrMany)
	says(t, agg("z", api.Cnt, yes(), letters(8)...), "b c d e f g h z", 2, 2)
}

// TestNames: P6.2, each Name and each of Vars that is none.
func TestNames(t *testing.T) {
	full := strings.Repeat("x", 16)
	for _, s := range []string{"x", full, "true_", "a0"} {
		checks(t, pred(s, v(s)), api.OK)
		checks(t, agg(s, api.Min, yes(), "y", "z"), api.OK)
		checks(t, let(api.Let, s, yes(), yes(), s), api.OK)
		checks(t, let(api.LetPast, s, yes(), yes(), "y", s), api.OK)
		checks(t, exists(yes(), "y", s), api.OK)
		checks(t, agg("w", api.Min, yes(), s, "z"), api.OK)
	}
	for _, s := range append(reserved(), "", full+"x", "X", "0", "_x", "x y", "x\x00", "é") {
		refused(t, pred(s), api.ErrArg)
		refused(t, pred("p", v(s)), api.ErrArg)
		refused(t, agg(s, api.Min, yes(), "y"), api.ErrArg)
		refused(t, agg("x", api.Min, yes(), s), api.ErrArg)
		refused(t, agg("x", api.Min, yes(), "y", s), api.ErrArg)
		refused(t, let(api.Let, s, yes(), yes()), api.ErrArg)
		refused(t, let(api.LetPast, s, yes(), yes(), "x"), api.ErrArg)
		refused(t, let(api.Let, "r", yes(), yes(), s), api.ErrArg)
		refused(t, let(api.LetPast, "r", yes(), yes(), "x", "y", s), api.ErrArg)
		refused(t, exists(yes(), s), api.ErrArg)
		refused(t, exists(yes(), "x", s, "y"), api.ErrArg)
	}
}

// TestIntervals: P6.2, their ends, for each kind that uses one.
func TestIntervals(t *testing.T) {
	const most = 1 << 40
	for _, g := range simple() {
		if !strings.Contains(uses(g.Kind), "Open") {
			continue
		}
		for _, i := range []api.Interval{within(0, 0), within(0, 1), within(1, 1), within(0, most), within(most, most), within(most-1, most), from(0), from(1), from(most)} {
			g.I = i
			checks(t, g, api.OK)
		}
		for _, i := range []api.Interval{
			within(1, 0), within(5, 3), within(most, most-1), within(-1, 0), within(-1, -1), within(-2, 5), within(0, -1), within(0, most+1), within(most+1, most+1), within(most+1, most), within(0, math.MaxInt64), within(math.MinInt64, 0), within(0, math.MinInt64),
			from(-1), from(most + 1), from(math.MaxInt64), from(math.MinInt64), {Hi: 1, Open: true}, {Lo: 1, Hi: 1, Open: true}, {Lo: 1, Hi: 5, Open: true}, {Hi: -1, Open: true}, {Hi: most, Open: true},
		} {
			g.I = i
			refused(t, g, api.ErrArg)
		}
	}
}

// TestTwice: P6.2, variables that stand there twice, and the name of an Agg among its groups.
func TestTwice(t *testing.T) {
	for _, l := range [][]string{{"x", "x"}, {"x", "y", "x"}, {"y", "x", "x"}, {"a", "b", "c", "d", "e", "a"}, {"a", "b", "c", "d", "e", "e"}} {
		refused(t, exists(yes(), l...), api.ErrVars)
		refused(t, agg("n", api.Max, yes(), l...), api.ErrVars)
		refused(t, let(api.Let, "r", yes(), yes(), l...), api.ErrVars)
		refused(t, let(api.LetPast, "r", yes(), yes(), l...), api.ErrVars)
	}
	refused(t, agg("n", api.Max, yes(), "x", "n"), api.ErrVars)
	refused(t, agg("n", api.Max, yes(), "x", "y", "n"), api.ErrVars)
	says(t, agg("x", api.Max, p("x", "y"), "x", "y"), "x y", 4, 3)
	says(t, let(api.Let, "x", yes(), yes(), "x"), "", 3, 2)
	says(t, exists(exists(p("x"), "x"), "x"), "", 4, 4)
	says(t, p("x", "x"), "x", 3, 2)
}

// TestValues: P6.2, a value's own error.
func TestValues(t *testing.T) {
	for _, s := range []api.Term{num(0), num(math.MinInt64), rat(1, 2), rat(0, 1), str(""), str("\x00é"), str(strings.Repeat("x", 64))} {
		checks(t, pred("p", s), api.OK)
		checks(t, cmpOf(api.Less, two(api.Add, num(1), s), v("x")), api.OK)
	}
	for _, c := range []struct {
		s api.Term
		e api.Errno
	}{
		{api.Term{Kind: api.Const}, api.ErrKind}, {con(api.Value{Kind: 4}), api.ErrKind}, {con(api.Value{Kind: -1}), api.ErrKind}, {con(api.Value{Kind: api.Int, D: 1}), api.ErrKind}, {con(api.Value{Kind: api.Int, S: "x"}), api.ErrKind}, {rat(2, 4), api.ErrKind}, {rat(1, 0), api.ErrKind}, {rat(1, -1), api.ErrKind}, {con(api.Value{Kind: api.Str, N: 1}), api.ErrKind},
		{str(strings.Repeat("x", 65)), api.ErrLong}, {str(strings.Repeat("x", 1<<16)), api.ErrLong}, {con(api.Value{Kind: api.Str, D: 1, S: strings.Repeat("x", 65)}), api.ErrKind},
	} {
		refused(t, pred("p", c.s), c.e)
		refused(t, cmpOf(api.Equal, v("x"), two(api.Mul, c.s, v("X"))), c.e)
		refused(t, before(test(pred("p", v("x"), c.s))), c.e)
	}
}

// towers are formulas of a depth, whose deepest nodes are of one sort each.
func towers(depth int) []formula {
	g := timed(api.Since, from(0), yes(), yes())
	for range depth - 2 {
		g = timed(api.Since, from(0), yes(), g)
	}
	s := two(api.Add, v("x"), num(1))
	for range depth - 3 {
		s = two(api.Sub, s, v("y"))
	}
	r := regex(api.Star, anyStep())
	for range depth - 3 {
		r = regex(api.Seq, anyStep(), r)
	}
	w := p()
	for depth > 1 {
		if depth == 2 {
			w = not(w)
			break
		}
		w = matched(api.After, within(1, 2), test(w))
		depth -= 2
	}
	return []formula{g, cmpOf(api.Equal, v("x"), s), before(r), w}
}

// TestDeep: P6.2, P6.5, MaxDepth and one more.
func TestDeep(t *testing.T) {
	for depth := 3; depth <= 24; depth++ {
		for i, g := range towers(depth) {
			checks(t, g, api.OK)
			if d := ast.Depth(g); d != depth {
				t.Error(i, d, depth)
			}
		}
	}
	for _, depth := range []int{25, 26, 40} {
		for _, g := range towers(depth) {
			refused(t, g, api.ErrDeep)
			refused(t, not(g), api.ErrDeep)
		}
	}
	for _, g := range towers(24) {
		refused(t, not(g), api.ErrDeep)
		refused(t, before(test(g)), api.ErrDeep)
	}
	for _, g := range towers(23) {
		checks(t, not(g), api.OK)
		refused(t, before(test(g)), api.ErrDeep)
		checks(t, of(api.Or, yes(), g), api.OK)
	}
}

// halves is a tree of n nodes of one sort, n odd, as low as may be.
func halves[T any](n int, leaf T, join func(a, b T) T) T {
	if n == 1 {
		return leaf
	}
	left := n / 2
	if left%2 == 0 {
		left--
	}
	return join(halves(left, leaf, join), halves(n-1-left, leaf, join))
}

func ofTerms(n int) formula {
	add := func(a, b api.Term) api.Term { return two(api.Add, a, b) }
	return cmpOf(api.Less, num(1), halves(n-2, v("x"), add))
}

func ofRegexes(n int) formula {
	alt := func(a, b api.Regex) api.Regex { return regex(api.Alt, a, b) }
	return before(halves(n-1, anyStep(), alt))
}

// ofTests has regexes and formulas by turns.
func ofTests(n int) formula {
	seq := func(a, b api.Regex) api.Regex { return regex(api.Seq, a, b) }
	leaf := test(before(test(yes())))
	size := (n - 2) / 5
	if size%2 == 0 {
		size--
	}
	g := before(halves(size, leaf, seq))
	rest := n - 1 - (size/2 + (size/2+1)*4)
	h := of(api.Join, g)
	for range rest - 1 {
		h.Subs = append(h.Subs, yes())
	}
	return h
}

func ofFormulas(n int) formula {
	g := of(api.Join)
	for range n - 1 {
		g.Subs = append(g.Subs, yes())
	}
	return g
}

// TestMany: P6.2, P6.5, MaxNodes and one more, of each sort.
func TestMany(t *testing.T) {
	for _, n := range []int{255, 256} {
		for i, g := range []formula{ofFormulas(n), ofTests(n), before(test(ofFormulas(n - 2)))} {
			checks(t, g, api.OK)
			if got := ast.Nodes(g); got != n {
				t.Error(i, n, got)
			}
		}
	}
	for n, g := range map[int]formula{255: ofTerms(255), 253: ofTerms(253), 256: ofRegexes(256), 254: ofRegexes(254)} {
		checks(t, g, api.OK)
		if got := ast.Nodes(g); got != n {
			t.Error(n, got)
		}
	}
	checks(t, not(ofTerms(255)), api.OK)
	for _, g := range []formula{ofFormulas(257), ofTests(257), ofTerms(257), ofRegexes(258), not(ofFormulas(256)), not(not(ofTerms(255))), not(ofRegexes(256)), ofFormulas(1000), ofTests(1000), ofFormulas(1 << 16)} {
		refused(t, g, api.ErrMany)
	}
	wide := of(api.Join)
	for range 36 {
		wide.Subs = append(wide.Subs, p("a", "b", "c", "d", "e", "f"))
	}
	says(t, wide, "a b c d e f", 253, 3)
	wide.Subs = append(wide.Subs, p("a", "b"))
	says(t, wide, "a b c d e f", 256, 3)
	wide.Subs[36] = p("a", "b", "c")
	refused(t, wide, api.ErrMany)
}

// TestFirstError: P6.2, of two errors at one node that which the list names first.
func TestFirstError(t *testing.T) {
	deepest := func(g formula) formula {
		for range 24 {
			g = not(g)
		}
		return g
	}
	refused(t, deepest(formula{}), api.ErrDeep)
	refused(t, deepest(p(letters(7)...)), api.ErrDeep)
	last := func(g formula) formula { l := ofFormulas(257); l.Subs[255] = g; return l }
	refused(t, last(formula{}), api.ErrMany)
	refused(t, last(exists(yes(), "x", "x")), api.ErrMany)
	refused(t, last(pred("P")), api.ErrMany)
	// The node that is too deep is the one too many as well.
	for n, e := range map[int]api.Errno{232: api.ErrDeep, 233: api.ErrDeep, 234: api.ErrMany} {
		both := ofFormulas(n)
		both.Subs = append(both.Subs, deepest(yes()))
		refused(t, both, e)
	}
	refused(t, formula{Kind: 23, Vars: letters(9), Name: "X"}, api.ErrKind)
	refused(t, pred("P", make([]api.Term, 7)...), api.ErrMany)
	refused(t, formula{Kind: api.Let, Vars: make([]string, 7)}, api.ErrMany)
	refused(t, formula{Kind: api.LetPast, Name: "r", Vars: []string{"x", "x", "x", "x", "x", "x", "x"}, Subs: []formula{yes(), yes()}}, api.ErrMany)
	refused(t, formula{Kind: api.Exists, Vars: make([]string, 9)}, api.ErrMany)
	refused(t, formula{Kind: api.Agg, Vars: make([]string, 9), Op: 7}, api.ErrMany)
	refused(t, exists(yes(), "x", "x", "X"), api.ErrArg)
	refused(t, formula{Kind: api.Exists, Vars: []string{"x", "x"}}, api.ErrArg)
	refused(t, agg("y", 7, yes(), "x", "y"), api.ErrArg)
	refused(t, agg("y", 0, yes(), "x", "x"), api.ErrArg)
	refused(t, let(api.Let, "R", yes(), yes(), "x", "x"), api.ErrArg)
	refused(t, pred("p", api.Term{Kind: api.Const, Name: "x", Value: api.Value{Kind: 9}}), api.ErrArg)
	refused(t, pred("p", api.Term{Kind: api.Const, Subs: []api.Term{v("x")}, Value: api.Value{Kind: 9}}), api.ErrArg)
	refused(t, pred("p", api.Term{Kind: 6, Name: "X"}), api.ErrKind)
	refused(t, before(api.Regex{Kind: 6, Test: []formula{{}}}), api.ErrKind)
}

// TestFirstNode: P6.2, of two errors at unlike nodes that of the first node, wherever it stands in the list.
func TestFirstNode(t *testing.T) {
	wrongs := []struct {
		g formula
		e api.Errno
	}{
		{formula{}, api.ErrKind}, {p(letters(7)...), api.ErrMany}, {pred("P"), api.ErrArg}, {exists(yes(), "x", "x"), api.ErrVars},
		{pred("p", api.Term{Kind: api.Const}), api.ErrKind}, {pred("p", str(strings.Repeat("x", 65))), api.ErrLong}, {pred("p", v("x"), v("X")), api.ErrArg},
		{before(test(formula{})), api.ErrKind}, {before(regex(api.Alt, test(exists(yes(), "x", "x")), regex(9))), api.ErrVars},
	}
	for _, a := range wrongs {
		for _, b := range wrongs {
			refused(t, and(a.g, b.g), a.e)
			refused(t, and(and(yes(), a.g), b.g), a.e)
			refused(t, of(api.Join, p("x"), not(a.g), yes(), b.g), a.e)
			refused(t, before(regex(api.Seq, test(a.g), test(b.g))), a.e)
		}
		for i, outer := range []formula{exists(a.g, "x", "x"), timed(api.Once, within(3, 1), a.g), let(api.Let, "r", a.g, yes(), letters(7)...), {Kind: 30, Subs: []formula{a.g}}} {
			refused(t, outer, []api.Errno{api.ErrVars, api.ErrArg, api.ErrMany, api.ErrKind}[i])
		}
		refused(t, let(api.Let, "r", yes(), a.g), a.e)
		refused(t, and(exists(yes(), "x", "x"), towers(25)[0]), api.ErrVars)
		refused(t, and(a.g, ofFormulas(300)), a.e)
		refused(t, and(towers(25)[1], a.g), api.ErrDeep)
	}
	refused(t, pred("p", str(strings.Repeat("x", 65)), api.Term{}), api.ErrLong)
	refused(t, pred("p", two(api.Add, v("x"), v("X")), api.Term{}), api.ErrArg)
	refused(t, pred("p", api.Term{}, v("X")), api.ErrKind)
}

// TestCrowd: P6.2, nine free variables, in a formula and in one within, told behind all else.
func TestCrowd(t *testing.T) {
	all := letters(9)
	says(t, few(8), "a b c d e f g h", 11, 3)
	refused(t, few(9), api.ErrVars)
	refused(t, few(26), api.ErrVars)
	for _, g := range []formula{few(8), not(few(8)), before(test(few(8))), exists(few(8), "h", "z")} {
		checks(t, g, api.OK)
	}
	for _, g := range []formula{
		not(few(9)), exists(few(9), "a"), exists(few(9), all[:8]...), agg("y", api.Cnt, few(9), "a"), agg("y", api.Cnt, few(9), all[1:]...),
		let(api.Let, "r", few(9), yes()), let(api.Let, "r", yes(), few(9)), let(api.LetPast, "r", few(9), yes(), "a"), let(api.LetPast, "r", yes(), few(9), "a"),
		before(test(few(9))), before(regex(api.Alt, anyStep(), regex(api.Star, test(few(9))))), before(test(exists(before(test(few(9))), all[:8]...))),
		of(api.Join, yes(), yes(), few(9)), timed(api.Until, from(0), few(9), yes()), and(few(8), p("i")), before(regex(api.Seq, test(few(8)), test(p("i")))),
		cmpOf(api.Less, two(api.Add, two(api.Add, two(api.Add, v("a"), v("b")), two(api.Add, v("c"), v("d"))), two(api.Add, two(api.Add, v("e"), v("f")), two(api.Add, v("g"), v("h")))), v("i")),
	} {
		refused(t, g, api.ErrVars)
		for e, h := range map[api.Errno]formula{api.ErrKind: {}, api.ErrMany: p(letters(7)...), api.ErrArg: pred("P"), api.ErrLong: pred("p", str(strings.Repeat("x", 65))), api.ErrDeep: towers(25)[0]} {
			refused(t, and(g, h), e)
			refused(t, and(h, g), e)
		}
	}
	says(t, and(exists(few(8), "a"), p("z")), "b c d e f g h z", 15, 5)
	says(t, agg("i", api.Cnt, few(8), all[:8]...), "b c d e f g h i", 12, 4)
}

// TestFree: P6.3, names that are bound, free, and both.
func TestFree(t *testing.T) {
	says(t, formula{Kind: api.False}, "", 1, 1)
	says(t, p(), "", 1, 1)
	says(t, p("z", "a", "m", "a"), "a m z", 5, 2)
	says(t, pred("x", num(1), v("y")), "y", 3, 2)
	says(t, cmpOf(api.Equal, two(api.Mul, v("z"), two(api.Sub, v("b"), num(2))), v("a")), "a b z", 7, 4)
	says(t, and(exists(p("x"), "x"), p("x")), "x", 6, 4)
	says(t, and(p("x"), exists(p("x", "y"), "x")), "x y", 7, 4)
	says(t, exists(and(p("x"), p("y")), "y", "z"), "x", 6, 4)
	says(t, exists(p("x"), "y"), "x", 3, 3)
	says(t, agg("n", api.Sum, p("x", "y", "z"), "x", "z"), "n z", 5, 3)
	says(t, agg("x", api.Sum, p("x", "y"), "x"), "x", 4, 3)
	says(t, agg("n", api.Sum, p("x"), "w", "g"), "g n", 3, 3)
	says(t, agg("a", api.Sum, yes(), "x", "c", "b"), "a b c", 2, 2)
	says(t, and(agg("n", api.Sum, p("x", "y"), "x", "y"), p("x")), "n x y", 7, 4)
	says(t, exists(agg("n", api.Sum, p("x", "y"), "x", "y"), "n"), "y", 5, 4)
	for _, kind := range []int{api.Let, api.LetPast} {
		says(t, let(kind, "r", p("x", "y"), pred("r", v("y")), "x", "z"), "y", 6, 3)
		says(t, let(kind, "r", p("x"), p("x", "w"), "x"), "w x", 6, 3)
		says(t, let(kind, "r", p("x"), yes(), "x"), "", 4, 3)
		says(t, let(kind, "r", yes(), let(kind, "s", p("x"), p("z"))), "z", 7, 4)
		says(t, let(kind, "x", yes(), pred("x", v("x")), "x"), "x", 4, 3)
	}
	says(t, of(api.Join, p("c"), not(p("a")), p("b", "c"), yes()), "a b c", 10, 4)
	for _, kind := range []int{api.Prev, api.Next, api.Once, api.Soon} {
		says(t, timed(kind, from(0), p("x")), "x", 3, 3)
	}
	for _, kind := range []int{api.Since, api.Until} {
		says(t, timed(kind, from(0), not(p("x", "z")), p("x", "y")), "x y z", 8, 4)
	}
	says(t, of(api.Or, p("x"), p("y")), "x y", 5, 3)
	for _, kind := range []int{api.Before, api.After} {
		says(t, matched(kind, from(0), anyStep()), "", 2, 2)
		says(t, matched(kind, from(0), regex(api.Star, anyStep())), "", 3, 3)
		says(t, matched(kind, from(0), regex(api.Seq, test(p("y")), regex(api.Alt, test(p("x")), regex(api.Star, test(p("w")))))), "w x y", 13, 7)
		says(t, matched(kind, from(0), test(and(p("b"), matched(kind, from(0), test(p("a")))))), "a b", 9, 7)
		says(t, matched(kind, from(0), test(exists(matched(kind, from(0), test(p("a", "b"))), "a"))), "b", 8, 7)
		says(t, matched(kind, from(0), regex(api.Seq, test(exists(p("a"), "a")), test(p("a")))), "a", 9, 6)
	}
}

// TestTermVars: P6.3, of every term, also of one that may not be.
func TestTermVars(t *testing.T) {
	for _, c := range []struct {
		s    api.Term
		want []string
	}{
		{v("x"), []string{"x"}}, {num(1), nil}, {api.Term{}, nil}, {api.Term{Kind: api.Var}, []string{""}}, {v("X y"), []string{"X y"}}, {v("not"), []string{"not"}},
		{two(api.Mul, v("b"), two(api.Add, v("a"), v("b"))), []string{"a", "b"}}, {two(api.Sub, num(1), str("x")), nil},
		{api.Term{Kind: api.Const, Name: "x"}, nil}, {api.Term{Kind: api.Add, Name: "x"}, nil}, {api.Term{Kind: 9, Name: "x", Subs: []api.Term{v("y")}}, []string{"y"}},
		{api.Term{Kind: api.Var, Name: "x", Subs: []api.Term{v("y"), v("x")}}, []string{"x", "y"}}, {api.Term{Kind: api.Const, Subs: []api.Term{v("z"), num(1), v("a"), v("")}}, []string{"", "a", "z"}},
		{two(0, two(-1, v("c"), v("b")), two(77, v("\xff"), v("a"))), []string{"a", "b", "c", "\xff"}}, {two(api.Add, v("ab"), two(api.Add, v("a"), v("b"))), []string{"a", "ab", "b"}},
	} {
		if l := ast.TermVars(c.s); !slices.Equal(l, c.want) {
			t.Errorf("%v: %q, want %q", c.s, l, c.want)
		}
	}
	many := api.Term{Kind: api.Var, Name: "m"}
	for _, s := range letters(26) {
		many.Subs = append(many.Subs, v(s), v(s))
	}
	if l := ast.TermVars(many); !slices.Equal(l, letters(26)) {
		t.Error(l)
	}
}

// TestPart: P6.4, where a path leads.
func TestPart(t *testing.T) {
	less := cmpOf(api.Less, v("x"), num(3))
	g := of(api.Join, and(p("x"), not(less)), yes(), timed(api.Since, from(0), p("y"), exists(p("z"), "z")))
	leads(t, g, g)
	leads(t, g, and(p("x"), not(less)), 0)
	leads(t, g, p("x"), 0, 0)
	leads(t, g, not(less), 0, 1)
	leads(t, g, less, 0, 1, 0)
	leads(t, g, yes(), 1)
	leads(t, g, exists(p("z"), "z"), 2, 1)
	leads(t, g, p("z"), 2, 1, 0)
	for _, path := range [][]int{{3}, {-1}, {math.MaxInt}, {math.MinInt}, {0, 2}, {0, -1}, {0, 0, 0}, {0, 1, 0, 0}, {1, 0}, {2, 1, 1}, {2, 1, 0, 0}, {3, 0}, {-1, 0}, {0, 1, 0, 0, 0, 0}} {
		leadsNowhere(t, g, path...)
	}
	leadsNowhere(t, g, make([]int, 1<<16)...)
	l := let(api.LetPast, "r", p("x"), less, "x")
	leads(t, l, p("x"), 0)
	leads(t, l, less, 1)
	leadsNowhere(t, l, 2)
	a := agg("n", api.Avg, p("x"), "x")
	leads(t, a, p("x"), 0)
	leadsNowhere(t, a, 1)
	for kind, g := range simple() {
		if kind == 0 {
			continue
		}
		leads(t, g, g)
		for n, h := range g.Subs {
			leads(t, g, h, n)
			leadsNowhere(t, g, n, 0)
		}
		leadsNowhere(t, g, len(g.Subs))
		leadsNowhere(t, g, -1)
	}
}

// TestTests: P6.4, the parts of Before and After are their outer tests, in the order of the text.
func TestTests(t *testing.T) {
	inner := before(regex(api.Alt, test(p("c")), test(p("d"))))
	for _, kind := range []int{api.Before, api.After} {
		r := regex(api.Seq, regex(api.Alt, test(p("a")), regex(api.Star, test(inner))), regex(api.Seq, anyStep(), test(p("b"))))
		g := matched(kind, within(2, 3), r)
		leads(t, g, g)
		leads(t, g, p("a"), 0)
		leads(t, g, inner, 1)
		leads(t, g, p("b"), 2)
		leads(t, g, p("c"), 1, 0)
		leads(t, g, p("d"), 1, 1)
		leads(t, not(g), p("d"), 0, 1, 1)
		for _, path := range [][]int{{3}, {-1}, {0, 0}, {1, 2}, {1, -1}, {1, 0, 0}, {2, 0}} {
			leadsNowhere(t, g, path...)
		}
		leads(t, matched(kind, from(0), test(yes())), yes(), 0)
		leadsNowhere(t, matched(kind, from(0), test(yes())), 1)
		leadsNowhere(t, matched(kind, from(0), anyStep()), 0)
		leadsNowhere(t, matched(kind, from(0), regex(api.Star, regex(api.Alt, anyStep(), anyStep()))), 0)
	}
}
