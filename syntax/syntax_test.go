package syntax_test

import (
	"fmt"
	"math"
	"strings"
	"testing"

	"custos/api"
	"custos/ast"
	"custos/lex"
	"custos/syntax"
)

type formula = api.Formula

func v(name string) api.Term { return api.Term{Kind: api.Var, Name: name} }

func con(c api.Value) api.Term { return api.Term{Kind: api.Const, Value: c} }

func num(n int64) api.Term { return con(api.Value{Kind: api.Int, N: n}) }

func rat(n, d int64) api.Term { return con(api.Value{Kind: api.Rat, N: n, D: d}) }

func str(s string) api.Term { return con(api.Value{Kind: api.Str, S: s}) }

func two(kind int, a, b api.Term) api.Term { return api.Term{Kind: kind, Subs: []api.Term{a, b}} }

func yes() formula { return formula{Kind: api.True} }

func pred(name string, terms ...api.Term) formula {
	return formula{Kind: api.Pred, Name: name, Terms: terms}
}

// p is a predicate of variables alone.
func p(vars ...string) formula {
	g := pred("p")
	for _, x := range vars {
		g.Terms = append(g.Terms, v(x))
	}
	return g
}

func cmpOf(kind int, a, b api.Term) formula { return formula{Kind: kind, Terms: []api.Term{a, b}} }

func of(kind int, subs ...formula) formula { return formula{Kind: kind, Subs: subs} }

func not(g formula) formula { return of(api.Not, g) }

func within(lo, hi int64) api.Interval { return api.Interval{Lo: lo, Hi: hi} }

func from(lo int64) api.Interval { return api.Interval{Lo: lo, Open: true} }

func timed(kind int, i api.Interval, subs ...formula) formula {
	return formula{Kind: kind, I: i, Subs: subs}
}

func matched(kind int, i api.Interval, r ...api.Regex) formula {
	return formula{Kind: kind, I: i, Regex: r}
}

func anyStep() api.Regex { return api.Regex{Kind: api.Any} }

func test(g ...formula) api.Regex { return api.Regex{Kind: api.Test, Test: g} }

func regex(kind int, subs ...api.Regex) api.Regex { return api.Regex{Kind: kind, Subs: subs} }

func exists(g formula, vars ...string) formula {
	return formula{Kind: api.Exists, Vars: vars, Subs: []formula{g}}
}

func agg(y string, op int, g formula, vars ...string) formula {
	return formula{Kind: api.Agg, Name: y, Op: op, Vars: vars, Subs: []formula{g}}
}

func let(kind int, r string, g, h formula, vars ...string) formula {
	return formula{Kind: kind, Name: r, Vars: vars, Subs: []formula{g, h}}
}

// letters are the first n names of one letter.
func letters(n int) []string {
	var l []string
	for i := range n {
		l = append(l, "abcdefghijklmnopqrstuvwxyz"[i:i+1])
	}
	return l
}

// short is enough of a formula to know it by.
func short(f formula) string { return fmt.Sprintf("%.300s", fmt.Sprint(f)) }

// prints asks for a formula's one text.
func prints(t *testing.T, f formula, text string) {
	t.Helper()
	if s, e := syntax.Print(f); s != text || e != api.OK {
		t.Errorf("%s: printed %.300q, %d, want %.300q", short(f), s, e, text)
	}
}

// reads asks for just this formula.
func reads(t *testing.T, text string, f formula) {
	t.Helper()
	if g, e, at := syntax.Parse(text); e != api.OK || at != 0 || !alike(f, g) {
		t.Errorf("%.300q: %s, %d at %d, want %s", text, short(g), e, at, short(f))
	}
}

// both asks for both ways.
func both(t *testing.T, f formula, text string) {
	t.Helper()
	prints(t, f, text)
	reads(t, text, f)
}

// refuses asks for an error, its place, and no formula beside it.
func refuses(t *testing.T, text string, e api.Errno, place int) {
	t.Helper()
	if f, got, at := syntax.Parse(text); got != e || at != place || !alike(f, formula{}) {
		t.Errorf("%.300q: %s, %d at %d, want the error %d at %d", text, short(f), got, at, e, place)
	}
}

// marked is a text whose place is told by a !, which goes out.
func marked(t *testing.T, text string, e api.Errno) {
	t.Helper()
	refuses(t, strings.Replace(text, "!", "", 1), e, strings.Index(text, "!"))
}

// cut is a text's tokens.
func cut(t *testing.T, text string) []lex.Token {
	t.Helper()
	l, e, _ := lex.Tokens(text)
	if e != api.OK {
		t.Fatalf("%.300q: %d", text, e)
	}
	return l
}

func joined(l []lex.Token, between string) string {
	var all []string
	for _, k := range l {
		all = append(all, k.Text)
	}
	return strings.Join(all, between)
}

// said is a formula and its one text.
type said struct {
	f    formula
	text string
}

func formulasSaid() []said {
	px, qx := p("x"), pred("q", v("x"))
	return []said{
		{yes(), "true"},
		{of(api.False), "false"},
		{pred("p"), "(p)"},
		{pred("q_1", v("x"), num(1), str("a"), v("x"), rat(1, 2), v("abcdefghij012345")), `(q_1 x 1 "a" x 1/2 abcdefghij012345)`},
		{pred("sum", v("sum"), v("min")), "(sum sum min)"},
		{cmpOf(api.Equal, v("x"), num(3)), "(= x 3)"},
		{cmpOf(api.Less, num(3), v("x")), "(< 3 x)"},
		{cmpOf(api.AtMost, v("x"), v("y")), "(<= x y)"},
		{not(px), "(not (p x))"},
		{of(api.And, px, yes()), "(and (p x) true)"},
		{of(api.Or, yes(), qx), "(or true (q x))"},
		{exists(px, "y", "x"), "(exists (y x) (p x))"},
		{timed(api.Prev, within(0, 5), px), "(prev [0,5] (p x))"},
		{timed(api.Next, within(1, 2), px), "(next [1,2] (p x))"},
		{timed(api.Once, from(3), px), "(once [3,*] (p x))"},
		{timed(api.Soon, within(7, 7), px), "(soon [7,7] (p x))"},
		{timed(api.Since, from(0), px, qx), "(since [0,*] (p x) (q x))"},
		{timed(api.Until, within(0, 1<<40), qx, px), "(until [0,1099511627776] (q x) (p x))"},
		{matched(api.Before, within(0, 9), anyStep()), "(before [0,9] any)"},
		{matched(api.After, from(0), anyStep()), "(after [0,*] any)"},
		{agg("n", api.Cnt, px, "x"), "(agg n cnt x () (p x))"},
		{agg("n", api.Med, p("x", "y", "z"), "z", "y", "x"), "(agg n med z (y x) (p x y z))"},
		{let(api.Let, "r", px, pred("r", v("y")), "x"), "(let r (x) (p x) (r y))"},
		{let(api.LetPast, "r", of(api.Or, px, timed(api.Prev, from(0), pred("r", v("x")))), pred("r", v("x")), "x"), "(letpast r (x) (or (p x) (prev [0,*] (r x))) (r x))"},
		{of(api.Join, px), "(join (p x))"},
		{of(api.Join, px, not(qx), yes(), px), "(join (p x) (not (q x)) true (p x))"},
	}
}

// partsSaid are terms and regexes, each within a formula.
func partsSaid() []said {
	one := two(api.Add, v("x"), num(1))
	r := func(x api.Regex) formula { return matched(api.Before, from(0), x) }
	return []said{
		{pred("p", one), "(p (+ x 1))"},
		{pred("p", two(api.Sub, num(-1), v("x"))), "(p (- -1 x))"},
		{pred("p", two(api.Mul, rat(-1, 2), v("x"))), "(p (* -1/2 x))"},
		{cmpOf(api.Less, two(api.Mul, one, two(api.Sub, v("y"), one)), one), "(< (* (+ x 1) (- y (+ x 1))) (+ x 1))"},
		{r(anyStep()), "(before [0,*] any)"},
		{r(test(p("x"))), "(before [0,*] (test (p x)))"},
		{r(test(r(test(yes())))), "(before [0,*] (test (before [0,*] (test true))))"},
		{r(regex(api.Alt, anyStep(), test(yes()))), "(before [0,*] (alt any (test true)))"},
		{r(regex(api.Seq, test(p("x")), anyStep())), "(before [0,*] (seq (test (p x)) any))"},
		{r(regex(api.Star, regex(api.Star, anyStep()))), "(before [0,*] (star (star any)))"},
		{r(regex(api.Seq, regex(api.Alt, anyStep(), regex(api.Star, test(yes()))), regex(api.Seq, anyStep(), anyStep()))), "(before [0,*] (seq (alt any (star (test true))) (seq any any)))"},
	}
}

func allSaid() []said { return append(formulasSaid(), partsSaid()...) }

// TestKinds: P7.1 to P7.3, each kind of formula, term and regex, printed and read.
func TestKinds(t *testing.T) {
	met := map[int]int{}
	for _, c := range allSaid() {
		both(t, c.f, c.text)
		met[c.f.Kind]++
	}
	for kind := api.True; kind <= api.Join; kind++ {
		if met[kind] == 0 {
			t.Error(kind)
		}
	}
}

// TestExamples: the chapter's table.
func TestExamples(t *testing.T) {
	for _, s := range []string{
		"(and (p x 1) (< x (+ y -2)))", "(agg n cnt x () (q x))", "(exists (x y) (p x))", "(let r (x) true (r 1))", "(before [0,*] (seq any (test (p))))",
	} {
		f, e, at := syntax.Parse(s)
		if e != api.OK || at != 0 {
			t.Error(s, e, at)
		}
		prints(t, f, s)
	}
	reads(t, ` ( once[0,5](p"a\"b")) `, timed(api.Once, within(0, 5), pred("p", str(`a"b`))))
	prints(t, timed(api.Once, within(0, 5), pred("p", str(`a"b`))), `(once [0,5] (p "a\"b"))`)
	for _, c := range []struct {
		s  string
		at int
	}{{"", 0}, {"(p", 2}, {"(p x))", 5}, {"(and true)", 9}, {"(foo any)", 5}, {"(= x)", 4}, {"x", 0}, {"(once (p))", 6}, {"(not true", 9}} {
		refuses(t, c.s, api.ErrParse, c.at)
	}
	refuses(t, "(p X)", api.ErrLex, 3)
	refuses(t, "(exists () true)", api.ErrArg, 0)
	refuses(t, "(exists (x x) (p x))", api.ErrVars, 0)
	refuses(t, "(p 1 2 3 4 5 6 7)", api.ErrMany, 0)
	refuses(t, strings.Repeat("(once [0,*] ", 24)+"true"+strings.Repeat(")", 24), api.ErrDeep, 24*12)
}

// TestIntervals: P7.1, P7.2, those that end and those that are Open, in each kind that has one.
func TestIntervals(t *testing.T) {
	for _, c := range []struct {
		i    api.Interval
		text string
	}{
		{within(0, 0), "[0,0]"}, {within(0, 1), "[0,1]"}, {within(10, 200), "[10,200]"}, {within(1<<40, 1<<40), "[1099511627776,1099511627776]"}, {within(0, 1<<40), "[0,1099511627776]"},
		{from(0), "[0,*]"}, {from(90), "[90,*]"}, {from(1 << 40), "[1099511627776,*]"},
	} {
		for kind, word := range map[int]string{api.Prev: "prev", api.Next: "next", api.Once: "once", api.Soon: "soon"} {
			both(t, timed(kind, c.i, yes()), "("+word+" "+c.text+" true)")
		}
		for kind, word := range map[int]string{api.Since: "since", api.Until: "until"} {
			both(t, timed(kind, c.i, yes(), p("x")), "("+word+" "+c.text+" true (p x))")
		}
		for kind, word := range map[int]string{api.Before: "before", api.After: "after"} {
			both(t, matched(kind, c.i, anyStep()), "("+word+" "+c.text+" any)")
		}
	}
	for _, s := range []string{"[5,3]", "[00,1]", "[0,1099511627777]", "[ 0,1]", "[-1,1]", "[0]", "[*,1]", "[,]"} {
		marked(t, "(once !"+s+" true)", api.ErrLex)
	}
}

// TestValues: P7.1, P7.2, each kind of value, texts of all bytes among them.
func TestValues(t *testing.T) {
	for _, c := range []struct {
		v    api.Term
		text string
	}{
		{num(0), "0"}, {num(-7), "-7"}, {num(math.MaxInt64), "9223372036854775807"}, {num(math.MinInt64), "-9223372036854775808"},
		{rat(0, 1), "0/1"}, {rat(-3, 1), "-3/1"}, {rat(1, 2), "1/2"}, {rat(math.MinInt64, math.MaxInt64), "-9223372036854775808/9223372036854775807"},
		{str(""), `""`}, {str("a b"), `"a b"`}, {str(`"`), `"\""`}, {str(`\`), `"\\"`}, {str(`\"\`), `"\\\"\\"`}, {str("x)(["), `"x)(["`}, {str("true"), `"true"`},
		{str("\x00\n\t\x7f\x80\xff"), `"\x00\x0a\x09\x7f\x80\xff"`}, {str("é"), `"\xc3\xa9"`},
		{str(strings.Repeat("a", 64)), `"` + strings.Repeat("a", 64) + `"`}, {str(strings.Repeat("\x01", 64)), `"` + strings.Repeat(`\x01`, 64) + `"`},
	} {
		both(t, pred("p", c.v), "(p "+c.text+")")
		both(t, cmpOf(api.Equal, c.v, two(api.Add, v("x"), c.v)), "(= "+c.text+" (+ x "+c.text+"))")
	}
	for b := range 256 {
		f := pred("p", str(string([]byte{byte(b), 'a', byte(b)})))
		s, e := syntax.Print(f)
		if e != api.OK || strings.ContainsAny(s, "\n\x00\x7f\x80") {
			t.Error(b, s, e)
		}
		reads(t, s, f)
	}
	for _, s := range []string{`"` + strings.Repeat("a", 65) + `"`, "9223372036854775808", "2/4", "05", "-0", `"\x41"`, `"a`, "1/0"} {
		marked(t, "(p !"+s+")", api.ErrLex)
	}
}

// TestVars: P7.1, P7.2, no variables, one, many, in their order.
func TestVars(t *testing.T) {
	for n := range 9 {
		l := letters(n)
		text := "(" + strings.Join(l, " ") + ")"
		if n > 0 {
			both(t, exists(yes(), l...), "(exists "+text+" true)")
		}
		if n <= 6 {
			both(t, let(api.Let, "r", yes(), yes(), l...), "(let r "+text+" true true)")
			both(t, let(api.LetPast, "r", yes(), yes(), l...), "(letpast r "+text+" true true)")
			both(t, p(l...), strings.Replace("(p "+text[1:], "(p )", "(p)", 1))
		}
		if n <= 7 {
			both(t, agg("y", api.Sum, yes(), append([]string{"x"}, l...)...), "(agg y sum x "+text+" true)")
		}
	}
	both(t, exists(yes(), "z", "a", "m"), "(exists (z a m) true)")
	both(t, agg("z", api.Max, yes(), "z", "y", "b", "c"), "(agg z max z (y b c) true)")
	both(t, let(api.Let, "p", yes(), yes(), "p", "b"), "(let p (p b) true true)")
}

// TestOperations: P7.1, P7.2, the six words, which are names elsewhere, and words that are none.
func TestOperations(t *testing.T) {
	for i, s := range []string{"sum", "cnt", "min", "max", "avg", "med"} {
		both(t, agg("n", i+1, pred(s, v(s)), s, "g"), "(agg n "+s+" "+s+" (g) ("+s+" "+s+"))")
		both(t, agg(s, i+1, yes(), "x", "g"), "(agg "+s+" "+s+" x (g) true)")
	}
	for _, s := range []string{"foo", "summ", "su", "s", "count", "and", "agg", "true", "any", `"sum"`, "1", "(", ")", "[0,1]", "=", "+", "@1", "0/1"} {
		marked(t, "(agg n !"+s+" x () true)", api.ErrParse)
	}
}

// wide is a formula whose text has so many bytes.
func wide(size int) formula {
	const long = 64 * 4
	f := of(api.Join, pred("p"))
	for left := size - len("(join (p))"); left > 0; {
		n := min(left, 5*(long+3)+4)
		if left-n > 0 && left-n < 20 {
			n -= 20
		}
		f.Subs = append(f.Subs, sized(n))
		left -= n
	}
	return f
}

// sized is a predicate of strings whose text has, with a blank ahead, n bytes, from 8 on.
func sized(n int) formula {
	const long = 64 * 4
	g := pred("q")
	for left := n - len(" (q)"); left > 0; {
		k := min(left, long+3)
		if left-k > 0 && left-k < 8 {
			k -= 8
		}
		left -= k
		inner := k - len(` ""`)
		s := strings.Repeat("\x00", inner/4)
		s += strings.Repeat("a", inner%4)
		g.Terms = append(g.Terms, str(s))
	}
	return g
}

// TestLength: P7.2, P7.3, a text of MaxFormula bytes and of one more.
func TestLength(t *testing.T) {
	for _, c := range allSaid() {
		room := strings.Repeat(" ", api.MaxFormula-len(c.text))
		reads(t, c.text+room, c.f)
		reads(t, room+c.text, c.f)
		refuses(t, c.text+room+" ", api.ErrLong, 0)
		refuses(t, "\n"+room+c.text, api.ErrLong, 0)
	}
	for _, n := range []int{1000, 5000, 16382, 16383, 16384} {
		f := wide(n)
		s, e := syntax.Print(f)
		if len(s) != n || e != api.OK {
			t.Fatal(n, len(s), e)
		}
		reads(t, s, f)
	}
	for _, n := range []int{16385, 16386, 40000} {
		s, e := syntax.Print(wide(n))
		if len(s) != n || e != api.OK {
			t.Fatal(n, len(s), e)
		}
		refuses(t, s, api.ErrLong, 0)
	}
	refuses(t, strings.Repeat(" ", 16384), api.ErrParse, 16384)
	refuses(t, strings.Repeat("?", 16384), api.ErrLex, 0)
	for _, s := range []string{" ", "?", "(", "\n", "(not ", "("} {
		refuses(t, strings.Repeat(s, 16385), api.ErrLong, 0)
	}
}

// nested is a text within heads, n of them, that are closed behind it.
func nested(n int, head, inner string) string { return around(n, head, inner, ")") }

func around(n int, head, inner, tail string) string {
	return strings.Repeat(head, n) + inner + strings.Repeat(tail, n)
}

// TestDepth: P7.2, the depth MaxDepth and one more, where a token is there and where the text ends.
func TestDepth(t *testing.T) {
	for _, c := range [][2]string{
		{"(not ", ")"}, {"(and ", " true)"}, {"(or ", " (p))"}, {"(exists (x) ", ")"}, {"(prev [0,1] ", ")"}, {"(since [0,*] ", " true)"}, {"(agg n cnt x () ", ")"}, {"(let r () ", " true)"}, {"(letpast r (x) ", " false)"}, {"(join ", ")"}, {"(join ", " true (p))"},
	} {
		deepest(t, 23, c, "true", 0)
		deepest(t, 22, c, "(p x)", len("(p "))
		deepest(t, 22, c, `(p "a")`, len("(p "))
		deepest(t, 22, c, "(= 1 x)", len("(= "))
		deepest(t, 21, c, "(p 1 (+ x 1))", len("(p 1 (+ "))
		deepest(t, 22, c, "(before [0,1] any)", len("(before [0,1] "))
		deepest(t, 21, c, "(before [0,1] (star any))", len("(before [0,1] (star "))
		deepest(t, 20, c, "(after [0,1] (test (p x)))", len("(after [0,1] (test (p "))
		deepest(t, 23, c, "(p)", 0)
	}
	for _, head := range []string{"(+ ", "(- ", "(* "} {
		text := "(p " + around(22, head, "x", " 1)") + ")"
		if f, e, at := syntax.Parse(text); e != api.OK || at != 0 || ast.Depth(f) != 24 {
			t.Error(text, e, at)
		}
		marked(t, "(p "+around(23, head, "!x", " 1)")+")", api.ErrDeep)
		marked(t, "(p "+strings.Repeat(head, 23)+"!", api.ErrParse)
	}
	for _, head := range []string{"(alt ", "(seq ", "(star "} {
		tail := " any)"
		if head == "(star " {
			tail = ")"
		}
		text := "(before [0,1] " + around(22, head, "any", tail) + ")"
		if f, e, at := syntax.Parse(text); e != api.OK || at != 0 || ast.Depth(f) != 24 {
			t.Error(text, e, at)
		}
		marked(t, "(before [0,1] "+around(23, head, "!any", tail)+")", api.ErrDeep)
		marked(t, "(before [0,1] "+strings.Repeat(head, 23)+"!", api.ErrParse)
	}
}

// deepest asks for a text whose deepest node stands at MaxDepth, and for the same one deeper, where that node begins at a place of inner.
func deepest(t *testing.T, n int, ends [2]string, inner string, place int) {
	t.Helper()
	head, tail := ends[0], ends[1]
	text := around(n, head, inner, tail)
	f, e, at := syntax.Parse(text)
	if e != api.OK || at != 0 || ast.Depth(f) != 24 {
		t.Errorf("%s: %d at %d, depth %d", text, e, at, ast.Depth(f))
	}
	prints(t, f, text)
	refuses(t, around(n+1, head, inner, tail), api.ErrDeep, (n+1)*len(head)+place)
	cutOff := strings.Repeat(head, n+1) + inner[:place]
	refuses(t, cutOff, api.ErrParse, len(cutOff))
	refuses(t, cutOff+" \n", api.ErrParse, len(cutOff)+2)
}

// TestDeepTokens: P7.2, whatever token stands where something too deep would begin; a bracket that ends a list begins nothing.
func TestDeepTokens(t *testing.T) {
	nots := strings.Repeat("(not ", 23)
	for _, s := range []string{"(", ")", "x", "true", "and", "any", "5", `"a"`, "[0,1]", "@5", "=", "<=", "+"} {
		marked(t, nots+"(not !"+s, api.ErrDeep)
		marked(t, nots+"(and !"+s, api.ErrDeep)
		marked(t, nots+"(join !"+s, api.ErrDeep)
		marked(t, nots+"(exists (x) !"+s, api.ErrDeep)
		marked(t, nots+"(since [0,1] !"+s, api.ErrDeep)
		marked(t, nots+"(agg y sum x () !"+s, api.ErrDeep)
		marked(t, nots+"(let r () !"+s, api.ErrDeep)
		marked(t, nots+"(= !"+s, api.ErrDeep)
		marked(t, nots+"(before [0,1] !"+s, api.ErrDeep)
		marked(t, nots[5:]+"(before [0,1] (test !"+s, api.ErrDeep)
		marked(t, nots[5:]+"(before [0,1] (alt !"+s, api.ErrDeep)
		marked(t, nots[5:]+"(p 1 (+ !"+s, api.ErrDeep)
		if s != ")" {
			marked(t, nots+"(p !"+s, api.ErrDeep)
		}
	}
	reads(t, nots+"(p)"+strings.Repeat(")", 23), nottedTimes(23, pred("p")))
	reads(t, nots+"true"+strings.Repeat(")", 23), nottedTimes(23, yes()))
	marked(t, nots+"(p!", api.ErrParse)
	marked(t, nots+"(once !true", api.ErrParse)
	marked(t, nots+"(exists !x", api.ErrParse)
	marked(t, nots+"(exists (x !1", api.ErrParse)
	marked(t, nots+"(!any", api.ErrParse)
	marked(t, nots+"(agg y !foo", api.ErrParse)
}

func nottedTimes(n int, f formula) formula {
	for range n {
		f = not(f)
	}
	return f
}
