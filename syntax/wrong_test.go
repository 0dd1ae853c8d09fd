package syntax_test

import (
	"strings"
	"testing"

	"custos/api"
	"custos/syntax"
)

// TestPrintRefuses: P7.1, formulas that may not be, for each error of ast.Check.
func TestPrintRefuses(t *testing.T) {
	long := str(strings.Repeat("x", 65))
	deep := nottedTimes(24, yes())
	many := of(api.Join)
	for range 256 {
		many.Subs = append(many.Subs, yes())
	}
	for _, c := range []struct {
		f formula
		e api.Errno
	}{
		{formula{}, api.ErrKind}, {of(23), api.ErrKind}, {of(-1), api.ErrKind}, {not(formula{}), api.ErrKind}, {pred("p", api.Term{}), api.ErrKind}, {pred("p", con(api.Value{})), api.ErrKind},
		{pred("p", rat(2, 4)), api.ErrKind}, {matched(api.Before, from(0), api.Regex{}), api.ErrKind}, {pred("p", api.Term{Kind: 6}), api.ErrKind},
		{deep, api.ErrDeep}, {many, api.ErrMany}, {p(letters(7)...), api.ErrMany}, {exists(yes(), letters(9)...), api.ErrMany}, {agg("n", 1, yes(), letters(9)...), api.ErrMany},
		{let(api.Let, "r", yes(), yes(), letters(7)...), api.ErrMany}, {let(api.LetPast, "r", yes(), yes(), letters(7)...), api.ErrMany},
		{of(api.And, yes()), api.ErrArg}, {pred("And"), api.ErrArg}, {pred("not"), api.ErrArg}, {pred(""), api.ErrArg}, {pred("p", v("true")), api.ErrArg}, {exists(yes()), api.ErrArg},
		{formula{Kind: api.True, Name: "x"}, api.ErrArg}, {timed(api.Prev, within(5, 3), yes()), api.ErrArg}, {timed(api.Prev, api.Interval{Hi: 1, Open: true}, yes()), api.ErrArg},
		{of(api.Join), api.ErrArg}, {agg("n", 0, yes(), "x"), api.ErrArg}, {agg("n", 7, yes(), "x"), api.ErrArg}, {agg("n", 1, yes()), api.ErrArg}, {cmpOf(api.Equal, v("x"), api.Term{Kind: api.Add}), api.ErrArg},
		{matched(api.After, from(0), test()), api.ErrArg}, {matched(api.After, from(0)), api.ErrArg}, {formula{Kind: api.Equal}, api.ErrArg},
		{exists(yes(), "x", "x"), api.ErrVars}, {agg("n", 1, yes(), "x", "n"), api.ErrVars}, {of(api.And, p(letters(6)...), pred("p", v("u"), v("v"), v("w"))), api.ErrVars},
		{pred("p", long), api.ErrLong},
	} {
		if s, e := syntax.Print(c.f); s != "" || e != c.e {
			t.Errorf("%s: %q, %d, want %d", short(c.f), s, e, c.e)
		}
	}
}

// TestCutShort: P7.2, texts that end too early, behind each token, and blanks behind that.
func TestCutShort(t *testing.T) {
	for _, c := range allSaid() {
		l := cut(t, c.text)
		for n := range len(l) {
			s := joined(l[:n], " ")
			refuses(t, s, api.ErrParse, len(s))
			refuses(t, s+" \n ", api.ErrParse, len(s)+3)
		}
	}
}

// TestBehind: P7.2, a token behind the whole formula, and the place of the first such one.
func TestBehind(t *testing.T) {
	for _, c := range allSaid() {
		for _, s := range []string{"(", ")", "x", "true", "and", "5", `"a"`, "[0,1]", "@5", "=", "(p)", ") ("} {
			marked(t, c.text+" !"+s, api.ErrParse)
			marked(t, "\n "+c.text+" \n !"+s+" true", api.ErrParse)
		}
	}
}

// TestMisplaced: P7.2, a token that can't stand there, in each place of the two tables.
func TestMisplaced(t *testing.T) {
	for _, s := range []string{
		"!x", "!)", "!5", `!"a"`, "![0,1]", "!@5", "!=", "!any", "!not", "!sum", "!p x)", "!+ 1 2",
		"(!)", "(!()", "(!true)", "(!false)", "(!any)", "(!test true)", "(!alt any any)", "(!seq any any)", "(!star any)", "(!+ 1 2)", "(!- 1 2)", "(!* 1 2)", "(!5)", `(!"p")`, "(![0,1])", "(!@5)", "(!(p))",
		"(p !=)", "(p !true)", "(p ![0,1])", "(p !@5)", "(p x !and)", "(p 1 !any)", "(p x !+)", "(p !not x)",
		"(p (!x))", "(p (!p x))", "(p (!= 1 2))", "(p (!< 1 2))", "(p (!))", "(p (!(+ 1 2)))", "(p (!5))", "(p (!true))", "(p (+ !))", "(p (+ 1!))", "(p (+ 1 2 !3))", "(p (+ 1 2 !x))", "(p (+ !and 1))", "(p (!-5 1))", "(p (+ 1 (!p)))",
		"(= !)", "(= x!)", "(= x y !z)", "(= !true false)", "(< x (!p))", "(<= x (!p x))", "(= x !=)", "(= ![0,1] x)", "(= !@5 x)",
		"(not !)", "(not !x)", "(not true !true)", "(not !not)", "(not !5)", "(not (not true) !(p))", "(not !any)", "(not (!star any))",
		"(and !)", "(and true!)", "(and true true !true)", "(and !x true)", "(and true !5)", "(or true !or)", "(or ![0,1] true)",
		"(join !)", "(join !x)", "(join true !x)", "(join true true !any)", "(join true ![0,1])", "(join (p) !@5)", "(join !sum)",
	} {
		marked(t, s, api.ErrParse)
	}
}

// TestMisplacedWithin: P7.2, likewise, lists of variables, intervals, operations and regexes.
func TestMisplacedWithin(t *testing.T) {
	for _, s := range []string{
		"(exists !x (p x))", "(exists !true)", "(exists !)", "(exists ![0,1] true)", "(exists !5 true)", "(exists (!1) true)", "(exists (!(x)) true)", "(exists (x !=) true)", "(exists (x ![0,1]) true)", `(exists (x !"y") true)`, "(exists (x !and) true)", "(exists (x) !)", "(exists (x) !x)", "(exists (x) true !true)", "(exists (x) !any)", "(exists (!@5) true)",
		"(prev !(p))", "(prev !true)", "(prev !)", "(prev !5 true)", "(next [0,1] ![0,1])", "(next [0,1]!)", "(once [0,1] true !true)", "(once !x true)", "(soon [0,1] !x)", "(soon !@5 true)", "(once !\"a\" true)",
		"(since !true true)", "(since [0,1] !)", "(since [0,1] true!)", "(since [0,1] true true !true)", "(until [0,1] !any true)", "(until [0,1] true !5)", "(until !) true",
		"(before !any)", "(before !)", "(before [0,1] !)", "(before [0,1] !true)", "(before [0,1] (!p))", "(before [0,1] (!any))", "(before [0,1] (!))", "(before [0,1] !x)", "(before [0,1] ![0,1])", "(before [0,1] any !any)", "(after [0,1] any !true)", "(after [0,1] !5)", "(after [0,1] (!not true))", "(after [0,1] (!true))", "(after [0,1] (!+ 1 2))", "(after [0,1] (!x any))", "(after [0,1] (!(star any)))",
		"(after [0,1] (test !))", "(after [0,1] (test !any))", "(after [0,1] (test true !true))", "(after [0,1] (test (!star any)))", "(after [0,1] (test !x))", "(after [0,1] (alt !))", "(after [0,1] (alt any!))", "(after [0,1] (alt any any !any))", "(after [0,1] (seq !true any))", "(after [0,1] (seq any !true))", "(after [0,1] (seq any!))", "(after [0,1] (star !))", "(after [0,1] (star any !any))", "(after [0,1] (star !true))", "(after [0,1] (star (!p)))",
		"(agg !)", "(agg !1 cnt x () true)", "(agg !(n) cnt x () true)", "(agg !not cnt x () true)", "(agg n !)", "(agg n !x x () true)", "(agg n cnt !)", "(agg n cnt !() true)", "(agg n cnt !1 () true)", "(agg n cnt !any () true)", "(agg n cnt x !)", "(agg n cnt x !true)", "(agg n cnt x !y true)", "(agg n cnt x (!1) true)", "(agg n cnt x (g !or) true)", "(agg n cnt x () !)", "(agg n cnt x () !x)", "(agg n cnt x () true !true)", "(agg n cnt x () !5)",
		"(let !)", "(let !1 () true true)", "(let !let () true true)", "(let !(r) () true true)", "(let r !)", "(let r !x true true)", "(let r !true true)", "(let r (!1) true true)", "(let r (x !true) true true)", "(let r () !)", "(let r () true!)", "(let r () true true !true)", "(let r () !x true)", "(letpast !any () true true)", "(letpast r !r true true)", "(letpast r (!+) true true)", "(letpast r () true !5)", "(letpast r () true true !(r))", "(letpast r () !any true)",
	} {
		marked(t, s, api.ErrParse)
	}
}

// reserved are the words that are no names.
func reserved() []string {
	return strings.Fields("true false not and or exists prev next once soon since until before after agg let letpast join any test alt seq star")
}

// TestReserved: P7.2, a reserved word where a name must stand, a name where a word of the tables must.
func TestReserved(t *testing.T) {
	for _, s := range reserved() {
		for _, around := range []string{"(p !$)", "(p x !$)", "(= !$ 1)", "(= 1 !$)", "(p (+ !$ 1))", "(exists (!$) true)", "(exists (x !$) true)", "(agg !$ cnt x () true)", "(agg n cnt !$ () true)", "(agg n cnt x (!$) true)", "(agg n cnt x (g !$) true)", "(let !$ () true true)", "(let r (!$) true true)", "(letpast !$ (x) true true)", "(letpast r (x !$) true true)"} {
			marked(t, strings.Replace(around, "$", s, 1), api.ErrParse)
		}
		longer := s + "_"
		reads(t, "("+longer+" "+longer+")", pred(longer, v(longer)))
		marked(t, "!"+s+"_", api.ErrParse)
	}
	for _, s := range []string{"true", "false", "any", "test", "alt", "seq", "star"} {
		marked(t, "(!"+s+" x)", api.ErrParse)
	}
	for _, s := range []string{"x", "p", "sum", "tru", "truee", "anyy", "an"} {
		marked(t, "!"+s, api.ErrParse)
		marked(t, "(not !"+s+")", api.ErrParse)
		marked(t, "(before [0,1] !"+s+")", api.ErrParse)
		marked(t, "(before [0,1] (!"+s+" any))", api.ErrParse)
		marked(t, "(before [0,1] (test !"+s+"))", api.ErrParse)
		marked(t, "("+s+" (!"+s+" 1 2))", api.ErrParse)
		marked(t, "("+s+" !true)", api.ErrParse)
		marked(t, "("+s+" !any)", api.ErrParse)
	}
}

// TestLexFirst: P7.2, bytes that are no token, their place, ahead of every other error, wherever that is.
func TestLexFirst(t *testing.T) {
	for _, s := range []string{
		"!X", "(p !X)", ") !?", "x !\t", "(and true) !#", "(not true !'", "() [0,1] !\"a", "true true ![5,3]", "(exists () true) !{", "(exists (x x) true) !\r", "(p 1 2 3 4 5 6 7)!,", "(p !abcdefghijklmnopq)", "!_x", "(p x!;", "(p !\x00)", "(p !\xff)", "true !é", "(p !2/4) ?", "(p 1!/ 2)", "(p !@05)", "(p !@)", "(once ![1,0) true)",
		strings.Repeat("(not ", 30) + "true !?", strings.Repeat("(", 100) + "!?",
	} {
		marked(t, s, api.ErrLex)
	}
	refuses(t, "? "+strings.Repeat(" ", 16382), api.ErrLex, 0)
	refuses(t, "? "+strings.Repeat(" ", 16383), api.ErrLong, 0)
}

// TestCheckBehind: P7.2, each error of ast.Check that a text can have which is well read, with the place 0.
func TestCheckBehind(t *testing.T) {
	trues := func(n int) string { return "(join" + strings.Repeat(" true", n) + ")" }
	names := func(n int) string { return "(" + strings.Join(letters(n), " ") + ")" }
	for _, c := range []struct {
		s string
		e api.Errno
	}{
		{"(exists () true)", api.ErrArg}, {"(not (exists () true))", api.ErrArg}, {"  (before [0,1] (test (exists () true)))", api.ErrArg},
		{"(exists (x x) true)", api.ErrVars}, {"(exists (x y x) true)", api.ErrVars}, {"(agg n cnt x (x) true)", api.ErrVars}, {"(agg n cnt x (n) true)", api.ErrVars}, {"(agg n cnt x (g g) true)", api.ErrVars}, {"(let r (x x) true true)", api.ErrVars}, {"(letpast r (x y y) true true)", api.ErrVars},
		{"(and (p a b c d e f) (p g h i))", api.ErrVars}, {"\n(exists (a) (and (p a b c d e f) (p g h i)))", api.ErrVars}, {"(before [0,1] (seq (test (p a b c d e)) (test (p f g h i))))", api.ErrVars},
		{"(p 1 2 3 4 5 6 7)", api.ErrMany}, {" (p x x x x x x x)", api.ErrMany}, {"(exists " + names(9) + " true)", api.ErrMany}, {"(agg n cnt x " + names(8) + " true)", api.ErrMany}, {"(let r " + names(7) + " true true)", api.ErrMany}, {"(letpast r " + names(7) + " true true)", api.ErrMany},
		{trues(256), api.ErrMany}, {trues(3000), api.ErrMany}, {"(p" + strings.Repeat(" x", 8000) + ")", api.ErrMany}, {"(exists (" + strings.Repeat("x ", 8000) + ") true)", api.ErrMany},
		{"(and (exists () true) (exists (x x) true))", api.ErrArg}, {"(and (exists (x x) true) (exists () true))", api.ErrVars}, {"(and (p 1 2 3 4 5 6 7) (exists () true))", api.ErrMany},
	} {
		refuses(t, c.s, c.e, 0)
		refuses(t, " \n"+c.s+"\n", c.e, 0)
	}
	f := of(api.Join)
	for range 255 {
		f.Subs = append(f.Subs, yes())
	}
	both(t, f, trues(255))
	both(t, pred("p", num(1), num(2), num(3), num(4), num(5), num(6)), "(p 1 2 3 4 5 6)")
}

// TestFirstFault: P7.2, two errors in one text, of which the earlier one counts; one of the reading ahead of all of ast.Check.
func TestFirstFault(t *testing.T) {
	deep := strings.Repeat("(not ", 24)
	for _, s := range []string{
		"(and !x y)", "(and true !x) )", "(!) (", "(p !true false", "(exists () !x)", "(exists (x x) true) !)", "(p 1 2 3 4 5 6 7!", "(exists () true) !true", "(agg n !foo 5 () x)", "(let r (!1) x", "(before !any any)", "(since [0,1] !x y)",
		"(join" + strings.Repeat(" true", 300) + " !x)", "(and !x " + deep + "true", "(exists () (and true !5 6))", "(once [0,1] !) true", "(and (exists (x x) true)!",
	} {
		marked(t, s, api.ErrParse)
	}
	for _, s := range []string{deep + "!x y", deep + "!true" + strings.Repeat(")", 30), "(and " + deep[5:] + "!true x", "(exists () " + deep[5:] + "!( x", "(and (exists (x x) true) " + deep[5:] + "!)"} {
		marked(t, s, api.ErrDeep)
	}
}
