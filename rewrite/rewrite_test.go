package rewrite_test

import (
	"fmt"
	"strconv"
	"strings"
	"testing"

	"custos/api"
	"custos/rewrite"
	"custos/syntax"
	"custos/typing"
)

func formula(t *testing.T, text string) api.Formula {
	t.Helper()
	f, e, at := syntax.Parse(text)
	if e != api.OK {
		t.Fatal(text, e, at)
	}
	return f
}

func textOf(f api.Formula) string {
	s, e := syntax.Print(f)
	if e != api.OK {
		return "a formula that may not be, " + strconv.Itoa(int(e))
	}
	return s
}

// call is one of the five, with the rules of which it leaves no case.
type call struct {
	name  string
	does  func(api.Formula) (api.Formula, api.Errno)
	rules []isCase
}

var (
	units = call{"Units", rewrite.Units, []isCase{isUnit}}
	nots  = call{"Nots", rewrite.Nots, []isCase{isTwiceNot}}
	joins = call{"Joins", rewrite.Joins, []isCase{isJoined}}
	lets  = call{"Lets", rewrite.Lets, []isCase{isNeedless}}
	all   = call{"Simpler", rewrite.Simpler, []isCase{isUnit, isTwiceNot, isJoined, isNeedless}}
)

func calls() []call { return []call{units, nots, joins, lets, all} }

// becomes asks what a call tells of each first text, and that the second one is that. What is told of both must be as it is promised to be, and mean the same, if the first one has kinds.
func becomes(t *testing.T, c call, rows ...[2]string) {
	t.Helper()
	for _, r := range rows {
		f := formula(t, r[0])
		g, e := c.does(f)
		if e != api.OK || textOf(g) != r[1] {
			t.Errorf("%s of %s: %s, %d, want %s", c.name, r[0], textOf(g), e, r[1])
		}
		asPromised(t, f)
		asPromised(t, formula(t, r[1]))
		if _, e := typing.Infer(signature(), f); e == api.OK {
			s := stream(167)
			meansTheSame(t, &s, f, 2, tells(f)...)
		}
	}
}

// promised asks of each text that what each call tells of it is as it is promised to be, whatever that is.
func promised(t *testing.T, texts ...string) {
	t.Helper()
	for _, s := range texts {
		asPromised(t, formula(t, s))
	}
}

func onces(n int, s string) string {
	return strings.Repeat("(once [0,1] ", n) + s + strings.Repeat(")", n)
}

// stays asks that each text is told as it is.
func stays(t *testing.T, c call, texts ...string) {
	t.Helper()
	for _, s := range texts {
		becomes(t, c, [2]string{s, s})
	}
}

// TestExamples: the chapter's table.
func TestExamples(t *testing.T) {
	becomes(t, all, [2]string{"(and true (p x))", "(p x)"}, [2]string{"(or (q) false)", "(q)"}, [2]string{"(and (p x) (not false))", "(p x)"},
		[2]string{"(not (not (q)))", "(q)"}, [2]string{"(exists (x) (exists (y) (r x y)))", "(exists (x y) (r x y))"})
	becomes(t, joins, [2]string{"(and (and (p x) (not (q))) (r x y))", "(join (p x) (r x y) (not (q)))"})
	stays(t, joins, "(and (and (p x) (< x 3)) (p x))")
	becomes(t, lets, [2]string{"(let r (x) (once [0,3] (p x)) (and (p y) (not (q))))", "(and (p y) (not (q)))"},
		[2]string{"(let r (x) (once [0,3] (p x)) (since [0,*] (r x) (p x)))", "(since [0,*] (once [0,3] (p x)) (p x))"})
	for _, c := range []call{lets, units, nots, joins, all} {
		stays(t, c, "(let r (x) (p x) (r y))", "(or (soon [0,5] (q)) true)")
	}
	stays(t, lets, "(let r (x) (p x) (and (r x) (r x)))")
}

// TestUnits: P16.1 to P16.3, each row by itself.
func TestUnits(t *testing.T) {
	becomes(t, units,
		[2]string{"(and (p x) true)", "(p x)"}, [2]string{"(and true (p x))", "(p x)"}, [2]string{"(and true true)", "true"}, [2]string{"(and true false)", "false"}, [2]string{"(and false true)", "false"},
		[2]string{"(and true (not (q)))", "(not (q))"}, [2]string{"(and true (= x 1))", "(= x 1)"}, [2]string{"(and true (= 1 x))", "(= 1 x)"}, [2]string{"(and (= 1 2) true)", "(= 1 2)"}, [2]string{"(and true (not (< 1 2)))", "(not (< 1 2))"}, [2]string{"(and true (<= (+ 1 2) 3))", "(<= (+ 1 2) 3)"},
		[2]string{"(or (q) false)", "(q)"}, [2]string{"(or false (q))", "(q)"}, [2]string{"(or false false)", "false"}, [2]string{"(or true false)", "true"}, [2]string{"(or false (not (q)))", "(not (q))"},
		[2]string{"(and (p x) (p x))", "(p x)"}, [2]string{"(or (p x) (p x))", "(p x)"}, [2]string{"(and (not (q)) (not (q)))", "(not (q))"}, [2]string{"(or (soon [0,5] (q)) (soon [0,5] (q)))", "(soon [0,5] (q))"}, [2]string{"(and false false)", "false"}, [2]string{"(or true true)", "true"},
		[2]string{"(not true)", "false"}, [2]string{"(not false)", "true"},
		[2]string{"(exists (x) (exists (y) (r x y z)))", "(exists (x y) (r x y z))"}, [2]string{"(exists (y) (exists (x) (r x y z)))", "(exists (y x) (r x y z))"}, [2]string{"(exists (a d) (exists (c b) (t a b c d)))", "(exists (a d c b) (t a b c d))"},
		[2]string{"(join (p x))", "(p x)"}, [2]string{"(join true)", "true"}, [2]string{"(join (and (p x) (< x 3)))", "(and (p x) (< x 3))"})
	stays(t, units, "true", "false", "(p x)", "(q)", "(not (q))", "(and (p x) (not (q)))", "(or (q) (not (q)))", "(exists (x) (p x))", "(exists (x) (once [0,3] (exists (y) (r x y))))", "(join (p x) (q))", "(join (p x) (p x))", "(join (p x) true)", "(join true (p x))", "(join (p x) (not (q)))")
	stays(t, units, "(or true (q))", "(or (q) true)", "(and false (q))", "(and (p x) false)", "(not (not (q)))", "(not (not (not (q))))",
		"(and (p x) (p y))", "(or (p x) (once [0,0] (p x)))", "(and (r x y) (r y x))", "(and (p x) (< x 3))", "(and (once [0,3] (p x)) (once [0,*] (p x)))", "(and (p 1) (p 1/1))", "(or (soon [0,4] (p x)) (soon [0,5] (p x)))",
		"(since [0,*] true (p x))", "(since [0,*] (q) (q))", "(until [0,1] (p x) (p x))", "(once [0,0] true)", "(let r () true (and (r) (q)))", "(agg n cnt x () (agg x max y () (p y)))")
	// What a rule does to the parts makes the formula a case of it.
	becomes(t, units,
		[2]string{"(and true (and true (and (p x) true)))", "(p x)"}, [2]string{"(and (and true (p x)) (and (p x) true))", "(p x)"}, [2]string{"(not (and true (not (or false true))))", "true"}, [2]string{"(not (not true))", "true"}, [2]string{"(not (not (not false)))", "true"},
		[2]string{"(and (p x) (not false))", "(p x)"}, [2]string{"(or (q) (not true))", "(q)"}, [2]string{"(exists (x) (join (exists (y) (r x y))))", "(exists (x y) (r x y))"}, [2]string{"(exists (x) (and true (exists (y) (or (exists (z) (t x y z w)) (exists (z) (t x y z w))))))", "(exists (x y z) (t x y z w))"},
		[2]string{"(join (join (join (and true (p x)))))", "(p x)"}, [2]string{"(or (join false) (q))", "(q)"}, [2]string{"(join (join (q) (not true)))", "(join (q) (not true))"})
}

// TestExistsAtTheLimit: P16.2, eight variables together; nine are no formula.
func TestExistsAtTheLimit(t *testing.T) {
	eight := "(and (t a b c d e f) (r g h))"
	becomes(t, units,
		[2]string{"(exists (a b c d) (exists (e f g h) " + eight + "))", "(exists (a b c d e f g h) " + eight + ")"},
		[2]string{"(exists (h) (exists (a b c d e f g) " + eight + "))", "(exists (h a b c d e f g) " + eight + ")"},
		[2]string{"(exists (a b c d e f g) (exists (h) " + eight + "))", "(exists (a b c d e f g h) " + eight + ")"},
		[2]string{"(exists (h) (exists (g) (exists (f) (exists (e) (exists (d) (exists (c) (exists (b) (exists (a) " + eight + "))))))))", "(exists (h g f e d c b a) " + eight + ")"})
	name := func(n int) string { return string(rune('a' + n)) }
	f := api.Formula{Kind: api.And, Subs: []api.Formula{{Kind: api.Pred, Name: "t"}, {Kind: api.Pred, Name: "t"}}}
	outer := api.Formula{Kind: api.Exists}
	inner := api.Formula{Kind: api.Exists}
	for n := range 9 {
		f.Subs[n/5].Terms = append(f.Subs[n/5].Terms, variable(name(n)))
		if n < 4 {
			outer.Vars = append(outer.Vars, name(n))
		} else {
			inner.Vars = append(inner.Vars, name(n))
		}
	}
	inner.Subs = []api.Formula{f}
	outer.Subs = []api.Formula{inner}
	refused(t, outer, api.ErrVars)
}

// TestNots: P16.1 to P16.3.
func TestNots(t *testing.T) {
	becomes(t, nots,
		[2]string{"(not (not (q)))", "(q)"}, [2]string{"(not (not true))", "true"}, [2]string{"(not (not (not (q))))", "(not (q))"}, [2]string{"(not (not (not (not (q)))))", "(q)"}, [2]string{"(not (not (not (not (not (q))))))", "(not (q))"},
		[2]string{"(and (p x) (not (not (q))))", "(and (p x) (q))"}, [2]string{"(and (p x) (not (not (< 1 2))))", "(and (p x) (< 1 2))"}, [2]string{"(and (p x) (not (not (not (< 1 2)))))", "(and (p x) (not (< 1 2)))"},
		[2]string{"(since [0,*] (not (not (q))) (p x))", "(since [0,*] (q) (p x))"}, [2]string{"(since [0,*] (not (not (not (q)))) (p x))", "(since [0,*] (not (q)) (p x))"}, [2]string{"(until [0,3] (not (not (q))) (p x))", "(until [0,3] (q) (p x))"}, [2]string{"(until [0,3] (not (not (not (q)))) (p x))", "(until [0,3] (not (q)) (p x))"})
	stays(t, nots, "(not (q))", "(not true)", "(and (p x) (not (r x x)))", "(not (and true (not (q))))", "(not (or (not (q)) (not (q))))", "(not (once [0,0] (not (q))))", "(and (p x) true)", "(since [0,*] (not (p x)) (p x))")
}

// TestPartsOfAJoin: P16.2, P16.3, a part of a Join is no case by itself; what is within it may be one.
func TestPartsOfAJoin(t *testing.T) {
	stays(t, units, "(join (and (p x) true) (not (q)))", "(join (or (q) false) (p x))", "(join (p x) (and (q) (q)))", "(join (p x) (not true))", "(join (p x) (not false))", "(join (exists (y) (exists (z) (t x y z))) (p x))", "(join (join (p x)) (p x))", "(join (p x) (join (q)))")
	becomes(t, units,
		[2]string{"(join (once [0,1] (and (p x) true)) (not (and (q) (q))))", "(join (once [0,1] (p x)) (not (q)))"}, [2]string{"(join (p x) (not (not true)))", "(join (p x) (not false))"}, [2]string{"(join (p x) (and (and (q) true) (q)))", "(join (p x) (and (q) (q)))"}, [2]string{"(join (p x) (not (join (q))))", "(join (p x) (not (q)))"},
		[2]string{"(join (p x) (exists (a) (exists (y) (exists (z) (t a x y z)))))", "(join (p x) (exists (a) (exists (y z) (t a x y z))))"}, [2]string{"(join (join (once [0,1] (join (p x)))) (p x))", "(join (join (once [0,1] (p x))) (p x))"}, [2]string{"(join (and (or (not true) (q)) (q)))", "(q)"})
	stays(t, nots, "(join (p x) (not (not (q))))", "(join (p x) (q) (not (not (q))) (not (not true)))")
	becomes(t, nots,
		[2]string{"(join (p x) (not (not (not (q)))))", "(join (p x) (not (q)))"}, [2]string{"(join (p x) (not (not (not (not (q))))))", "(join (p x) (not (not (q))))"}, [2]string{"(join (or (p x) (and (p x) (not (not (q))))))", "(join (or (p x) (and (p x) (q))))"}, [2]string{"(join (p x) (not (and (q) (not (not (q))))))", "(join (p x) (not (and (q) (q))))"})
	stays(t, lets, "(join (let l (y) (p y) (p x)) (q))", "(join (q) (let l (x) (p x) (l x)))", "(join (p x) (letpast l (y) (p y) (q)))")
	becomes(t, lets,
		[2]string{"(join (p x) (not (let l (y) (p y) (q))))", "(join (p x) (not (q)))"}, [2]string{"(join (once [0,1] (let l (x) (p x) (l x))) (q))", "(join (once [0,1] (p x)) (q))"}, [2]string{"(join (let l (y) (p y) (let l (x) (p x) (l x))) (q))", "(join (let l (y) (p y) (p x)) (q))"})
	stays(t, joins, "(join (p x) (q))", "(join (p x) (not (join (q) (q))))", "(join (p x) (not (and (q) (q))))", "(join (p x))")
	becomes(t, joins,
		[2]string{"(join (p x) (not (and (q) (and (q) (q)))))", "(join (p x) (not (join (q) (q) (q))))"}, [2]string{"(join (p x) (once [0,1] (and (q) (and (q) (q)))))", "(join (p x) (once [0,1] (join (q) (q) (q))))"}, [2]string{"(join (p x) (and (and (and (q) (q)) (p x)) (< x 3)))", "(join (p x) (and (join (q) (q) (p x)) (< x 3)))"})
}

// TestJoins: P16.1 to P16.3, an And of each case, with two pieces and with more.
func TestJoins(t *testing.T) {
	stays(t, joins, "(and (p x) (q))", "(and (q) (p x))", "(and (p x) (not (q)))", "(and (not (q)) (p x))", "(and (p x) (not (p x)))", "(and (p x) (= y 1))", "(and (p x) (< x 3))", "(and (p x) (not (< x 3)))", "(and (p x) (= x x))", "(and (p x) (= y (+ x 1)))", "(and (p x) (= (+ x 1) y))", "(and (= x 1) (not (= x 2)))", "(or (p x) (p x))")
	becomes(t, joins,
		// Case 1, in the first part and in the second one.
		[2]string{"(and (and (p x) (r x y)) (q))", "(join (p x) (r x y) (q))"}, [2]string{"(and (p x) (and (r x y) (q)))", "(join (p x) (r x y) (q))"}, [2]string{"(and (and (p x) (p y)) (and (r x y) (q)))", "(join (p x) (p y) (r x y) (q))"}, [2]string{"(and (p x) (and (r x y) (and (q) (p y))))", "(join (p x) (r x y) (q) (p y))"}, [2]string{"(and (and (and (p x) (r x y)) (q)) (p y))", "(join (p x) (r x y) (q) (p y))"},
		[2]string{"(and (and (p x) (q)) (= y 1))", "(join (p x) (q) (= y 1))"}, [2]string{"(and (and (p x) (q)) (< 1 2))", "(join (p x) (q) (< 1 2))"}, [2]string{"(and (and (p x) true) (q))", "(join (p x) true (q))"}, [2]string{"(and (and (p x) (p x)) (p x))", "(join (p x) (p x) (p x))"}, [2]string{"(and (or (q) (q)) (and (once [0,1] (q)) (p x)))", "(join (or (q) (q)) (once [0,1] (q)) (p x))"},
		// Case 2, in both.
		[2]string{"(and (and (p x) (p y)) (not (r x y)))", "(join (p x) (p y) (not (r x y)))"}, [2]string{"(and (and (p x) (not (r x x))) (not (r x 1)))", "(join (p x) (not (r x x)) (not (r x 1)))"}, [2]string{"(and (and (p x) (not (r x x))) (p y))", "(join (p x) (p y) (not (r x x)))"}, [2]string{"(and (p y) (and (p x) (not (r x x))))", "(join (p y) (p x) (not (r x x)))"}, [2]string{"(and (and (p x) (not (= x 1))) (p y))", "(join (p x) (p y) (not (= x 1)))"},
		// A Not whose part is an And is one piece, be it joined or taken away.
		[2]string{"(and (and (p x) (q)) (not (and (r x x) (p x))))", "(join (p x) (q) (not (and (r x x) (p x))))"}, [2]string{"(and (and (p x) (q)) (not (and (q) (q))))", "(join (p x) (q) (not (and (q) (q))))"}, [2]string{"(and (and (p x) (q)) (not (and (and (r x x) (p x)) (q))))", "(join (p x) (q) (not (join (r x x) (p x) (q))))"},
		// Those that are no Nots stand ahead, each in order.
		[2]string{"(and (not (q)) (and (p x) (p y)))", "(join (p x) (p y) (not (q)))"}, [2]string{"(and (not (q)) (and (not (not (q))) (p x)))", "(join (p x) (not (q)) (not (not (q))))"}, [2]string{"(and (and (not (q)) (p y)) (and (and (p x) (not (p 1))) (not (p x))))", "(join (p y) (p x) (not (q)) (not (p 1)) (not (p x)))"}, [2]string{"(and (and (p x) (not (p 3))) (and (and (p y) (not (p 2))) (not (p 1))))", "(join (p x) (p y) (not (p 3)) (not (p 2)) (not (p 1)))"},
		// What is within.
		[2]string{"(or (and (and (p x) (q)) (q)) (p x))", "(or (join (p x) (q) (q)) (p x))"}, [2]string{"(and (once [0,1] (and (q) (and (q) (q)))) (p x))", "(and (once [0,1] (join (q) (q) (q))) (p x))"}, [2]string{"(and (p x) (not (and (p x) (and (q) (q)))))", "(and (p x) (not (join (p x) (q) (q))))"})
	// Case 3 and case 4 are one piece, and no case themselves.
	stays(t, joins, "(and (and (p x) (< x 3)) (p x))", "(and (p x) (and (p x) (< x 3)))", "(and (and (p x) (q)) (< x 3))", "(and (and (p x) (q)) (not (<= x 3)))", "(and (and (p x) (q)) (= y (+ x 1)))", "(and (and (p x) (q)) (= y x))", "(and (and (p x) (= y x)) (q))", "(and (and (p x) (not (= x 3))) (not (< x 2)))", "(and (and (p x) (not (< x 3))) (not (q)))")
	becomes(t, joins,
		[2]string{"(and (and (and (p x) (q)) (p y)) (< x 3))", "(and (join (p x) (q) (p y)) (< x 3))"}, [2]string{"(and (and (and (p x) (q)) (p x)) (= y (+ x 1)))", "(and (join (p x) (q) (p x)) (= y (+ x 1)))"}, [2]string{"(and (and (and (p x) (= y (+ x 1))) (q)) (not (r x y)))", "(join (and (p x) (= y (+ x 1))) (q) (not (r x y)))"}, [2]string{"(and (and (and (p x) (not (< x 3))) (q)) (p x))", "(join (and (p x) (not (< x 3))) (q) (p x))"}, [2]string{"(and (p x) (and (q) (and (p x) (= x x))))", "(join (p x) (q) (and (p x) (= x x)))"})
	// Pieces that are all Nots.
	stays(t, joins, "(and (and (not (q)) (not (p 1))) (not (q)))", "(and (not (q)) (and (not (p 1)) (not (q))))", "(and (not (q)) (and (not (p 1)) (and (not (q)) (not (not (q))))))", "(join (and (not (q)) (not (p 1))))", "(join (and (not (q)) (not (p 1))) (not (q)))", "(join (join (and (not (q)) (not (q)))) (and (not (q)) (not (q))))")
	becomes(t, joins, [2]string{"(and (and (not (q)) (not (p 1))) (p x))", "(join (p x) (not (q)) (not (p 1)))"}, [2]string{"(and (and (not (q)) (not (p 1))) true)", "(join true (not (q)) (not (p 1)))"}, [2]string{"(join (and (not (q)) (not (p 1))) (p x))", "(join (p x) (not (q)) (not (p 1)))"})
}

// TestJoinsWithin: P16.1 to P16.3, a Join with another one, and with an And of each case, within.
func TestJoinsWithin(t *testing.T) {
	becomes(t, joins,
		[2]string{"(join (join (p x)))", "(join (p x))"}, [2]string{"(join (join (p x)) (q))", "(join (p x) (q))"}, [2]string{"(join (q) (join (join (p x) (p y)) (not (r x y))))", "(join (q) (p x) (p y) (not (r x y)))"}, [2]string{"(join (p x) (join (r x y) (not (q))))", "(join (p x) (r x y) (not (q)))"}, [2]string{"(join (join (p x) (not (q))) (join (p y) (not (r y y))) (not (r x y)))", "(join (p x) (p y) (not (q)) (not (r y y)) (not (r x y)))"},
		[2]string{"(join (and (p x) (q)))", "(join (p x) (q))"}, [2]string{"(join (and (p x) (not (r x x))) (p y))", "(join (p x) (p y) (not (r x x)))"}, [2]string{"(join (p y) (and (p x) (not (r x x))) (not (q)))", "(join (p y) (p x) (not (r x x)) (not (q)))"}, [2]string{"(join (and (join (p x)) (and (q) (not (q)))))", "(join (p x) (q) (not (q)))"},
		[2]string{"(and (join (p x) (p y)) (q))", "(join (p x) (p y) (q))"}, [2]string{"(and (q) (join (p x) (not (q))))", "(join (q) (p x) (not (q)))"}, [2]string{"(and (join (p x) (p y)) (not (r x y)))", "(join (p x) (p y) (not (r x y)))"}, [2]string{"(and (join (p x)) (join (q) (not (q))))", "(join (p x) (q) (not (q)))"},
		[2]string{"(join (join (and (p x) (< x 3))) (q))", "(join (and (p x) (< x 3)) (q))"}, [2]string{"(join (and (and (p x) (< x 3)) (q)) (not (q)))", "(join (and (p x) (< x 3)) (q) (not (q)))"})
	stays(t, joins, "(join (and (p x) (< x 3)) (q))", "(join (and (p x) (not (< x 3))))", "(join (and (p x) (= y (+ x 1))) (r x y) (not (q)))", "(join (and (join (p x) (q)) (< x 3)) (p y))", "(and (join (p x)) (q))", "(and (q) (join (p x)))", "(and (join (p x)) (not (join (p x))))", "(and (join (p x) (q)) (< x 3))", "(join (once [0,1] (join (p x))) (not (join (q))))")
	becomes(t, joins, [2]string{"(join (and (and (p x) (q)) (not (not (q)))))", "(join (p x) (q) (not (not (q))))"}, [2]string{"(join (and (join (and (p x) (q)) (q)) (< x 3)) (q))", "(join (and (join (p x) (q) (q)) (< x 3)) (q))"})
}

// TestLets: P16.1 to P16.3, a predicate that is asked for nowhere, once, twice; with its variables, or with other terms.
func TestLets(t *testing.T) {
	becomes(t, lets,
		// Nowhere.
		[2]string{"(let l (x) (p x) (q))", "(q)"}, [2]string{"(let l (x) (l x) (q))", "(q)"}, [2]string{"(let l () (not (q)) (p x))", "(p x)"}, [2]string{"(let l (x) (soon [0,4] (p x)) (next [0,1] (p x)))", "(next [0,1] (p x))"}, [2]string{"(let l (x) (p x) (not (q)))", "(not (q))"}, [2]string{"(let l (x) (p x) (agg l cnt x () (p x)))", "(agg l cnt x () (p x))"}, [2]string{"(let l (l) (p l) (p l))", "(p l)"},
		[2]string{"(letpast l (x) (p x) (q))", "(q)"}, [2]string{"(letpast l (x) (or (p x) (prev [0,*] (l x))) (q))", "(q)"}, [2]string{"(letpast l () (not (q)) (p x))", "(p x)"},
		// Once.
		[2]string{"(let l (x) (p x) (l x))", "(p x)"}, [2]string{"(let l () (q) (l))", "(q)"}, [2]string{"(let l () true (not (l)))", "(not true)"}, [2]string{"(let l (x y) (r y x) (l x y))", "(r y x)"}, [2]string{"(let l (y x) (r y x) (l y x))", "(r y x)"}, [2]string{"(let l (x) (= x 1) (and (p x) (not (l x))))", "(and (p x) (not (= x 1)))"}, [2]string{"(let l (x) (= 1 x) (or (p x) (l x)))", "(or (p x) (= 1 x))"},
		[2]string{"(let l (x) (p x) (since [0,*] (not (l x)) (p x)))", "(since [0,*] (not (p x)) (p x))"}, [2]string{"(let l (x) (and (p x) (not (r x x))) (since [0,*] (l x) (p x)))", "(since [0,*] (and (p x) (not (r x x))) (p x))"}, [2]string{"(let l (x) (and (p x) (q)) (until [0,3] (not (l x)) (p x)))", "(until [0,3] (not (and (p x) (q))) (p x))"}, [2]string{"(let l () (exists (x) (p x)) (not (l)))", "(not (exists (x) (p x)))"}, [2]string{"(let l () (q) (not (not (l))))", "(not (not (q)))"},
		[2]string{"(let l (x) (p x) (join (l x) (q)))", "(join (p x) (q))"}, [2]string{"(let l (x) (and (p x) (not (q))) (join (l x) (not (q))))", "(join (and (p x) (not (q))) (not (q)))"}, [2]string{"(let l (x) (p x) (join (p x) (not (l x))))", "(join (p x) (not (p x)))"}, [2]string{"(let l (x) (p x) (exists (x) (r x y)))", "(exists (x) (r x y))"}, [2]string{"(let l (x) (p x) (exists (x) (and (l x) (r x y))))", "(exists (x) (and (p x) (r x y)))"}, [2]string{"(let l (x) (exists (y) (r x y)) (and (p y) (l x)))", "(and (p y) (exists (y) (r x y)))"},
		[2]string{"(let l (x) (p x) (agg n cnt x () (l x)))", "(agg n cnt x () (p x))"}, [2]string{"(let l (n) (agg n cnt x () (p x)) (l n))", "(agg n cnt x () (p x))"}, [2]string{"(let l (x) (p x) (before [0,9] (seq (test (q)) (alt (test (p x)) (seq any (test (l x)))))))", "(before [0,9] (seq (test (q)) (alt (test (p x)) (seq any (test (p x))))))"},
		[2]string{"(let l (x) (soon [0,4] (p x)) (next [0,1] (l x)))", "(next [0,1] (soon [0,4] (p x)))"}, [2]string{"(let l (x) (and (l x) (q)) (once [0,1] (l x)))", "(once [0,1] (and (l x) (q)))"}, [2]string{"(let p (x) (and (p x) (q)) (p x))", "(and (p x) (q))"})
	stays(t, lets,
		// Twice, or more often.
		"(let l (x) (p x) (and (l x) (l x)))", "(let l (x) (p x) (or (l x) (once [0,1] (l x))))", "(let l (x) (p x) (before [0,1] (seq (test (l x)) (test (l x)))))", "(let l (x) (p x) (and (l x) (once [0,1] (l y))))",
		// With other terms.
		"(let l (x) (p x) (l y))", "(let l (x) (p x) (l 1))", "(let l (x y) (r x y) (l y x))", "(let l (y x) (r x y) (l x y))", "(let l (x y) (r x y) (l x x))", "(let l (x y) (r x y) (l y y))", "(let l (x y) (r x y) (l x 1))", "(let l (x y) (r x y) (l x z))", "(let l (x) (p x) (l))", "(let l (x) (p x) (l x x))", "(let l () (q) (l x))", "(let l (x y) (r x y) (l x))", `(let l (x) (p x) (l "x"))`,
		// The first part is a Not.
		"(let l () (not (q)) (l))", "(let l () (not (q)) (once [0,1] (l)))", "(let l () (not true) (not (l)))",
		// A LetPast that is asked for.
		"(letpast l (x) (p x) (l x))", "(letpast l (x) (or (p x) (prev [0,*] (l x))) (l x))", "(letpast l () (q) (not (l)))")
	// By itself alone a LetPast is not asked for, and what a Let's first part asks for is told elsewhere.
	becomes(t, lets,
		[2]string{"(letpast l (x) (prev [0,*] (or (l x) (once [0,1] (l x)))) (p x))", "(p x)"}, [2]string{"(letpast l (x) (or (p x) (prev [0,*] (l x))) (letpast l (x) (or (p x) (prev [0,1] (l x))) (l x)))", "(letpast l (x) (or (p x) (prev [0,1] (l x))) (l x))"},
		[2]string{"(let l (x) (and (l x) (l x)) (p x))", "(p x)"}, [2]string{"(let p (x) (p x) (p x))", "(p x)"}, [2]string{"(let p (x) (and (p x) (p x)) (once [0,1] (p x)))", "(once [0,1] (and (p x) (p x)))"})
	// What becomes of the parts makes the formula a case, or makes it none.
	becomes(t, lets,
		[2]string{"(let l (x) (let k (x) (p x) (k x)) (l x))", "(p x)"}, [2]string{"(let l (x) (p x) (let k (x) (l x) (k x)))", "(p x)"}, [2]string{"(let l (x) (p x) (let k (x) (l x) (l x)))", "(p x)"}, [2]string{"(let l (x) (p x) (let k (x) (and (l x) (l x)) (l x)))", "(p x)"}, [2]string{"(let l (x) (p x) (and (l x) (let k (x) (l x) (q))))", "(and (p x) (q))"},
		[2]string{"(let l () (not (q)) (let k () (l) (k)))", "(let l () (not (q)) (l))"}, [2]string{"(let l (x) (let k (x) (p x) (and (k x) (k x))) (l x))", "(let k (x) (p x) (and (k x) (k x)))"}, [2]string{"(let l (x) (p x) (let k (x) (l x) (and (k x) (k x))))", "(let k (x) (p x) (and (k x) (k x)))"})
}

// TestWhoTells: P16.2, P16.3, the name is told again within, or by another one.
func TestWhoTells(t *testing.T) {
	becomes(t, lets,
		[2]string{"(let l (x) (p x) (let l (x) (r x x) (or (l x) (once [0,1] (l x)))))", "(let l (x) (r x x) (or (l x) (once [0,1] (l x))))"}, [2]string{"(let l (x) (p x) (letpast l (x) (or (p x) (prev [0,1] (l x))) (l x)))", "(letpast l (x) (or (p x) (prev [0,1] (l x))) (l x))"}, [2]string{"(let l (x) (p x) (and (l x) (let l (x) (r x x) (or (l x) (once [0,1] (l x))))))", "(and (p x) (let l (x) (r x x) (or (l x) (once [0,1] (l x)))))"},
		// The first part of the inner Let asks for the outer one's.
		[2]string{"(let l (x) (p x) (let l (x) (l x) (or (l x) (once [0,1] (l x)))))", "(let l (x) (p x) (or (l x) (once [0,1] (l x))))"}, [2]string{"(let l (x) (p x) (let l (x) (l x) (l x)))", "(p x)"}, [2]string{"(let l (x) (p x) (let l (x) (and (l x) (q)) (or (l x) (once [0,1] (l x)))))", "(let l (x) (and (p x) (q)) (or (l x) (once [0,1] (l x))))"}, [2]string{"(letpast l (x) (p x) (let l () (q) (l)))", "(q)"},
		[2]string{"(let l (x) (let l (x) (p x) (l x)) (l x))", "(p x)"})
	stays(t, lets, "(let l (x) (p x) (let l (y) (l y) (l z)))", "(letpast l (x) (p x) (let l (y) (l y) (l z)))", "(let l (x) (p x) (let l (x) (and (l x) (l x)) (or (l x) (once [0,1] (l x)))))",
		"(let p (x) (r x x) (and (p x) (p x)))")
}

// TestHidden: P16.2, P16.3, the Pred stands behind a Let or LetPast that tells a name which the first part asks for.
func TestHidden(t *testing.T) {
	// Beside the Pred stands something deep, so that nothing becomes too deep.
	around := func(inner, name string) string {
		return "(and " + fmt.Sprintf(inner, name) + " " + onces(10, "(q)") + ")"
	}
	for _, inner := range []string{
		"(let %s (x) (r x x) (and (l x) (and (%[1]s x) (%[1]s x))))", "(let %s (x) (l x) (and (%[1]s x) (%[1]s x)))", "(let %s (x) (and (l x) (r x x)) (and (q) (and (%[1]s y) (%[1]s x))))",
		"(letpast %s (x) (r x x) (and (l x) (%[1]s x)))", "(letpast %s (x) (or (l x) (prev [0,1] (%[1]s x))) (%[1]s x))", "(letpast %s (x) (or (r x x) (prev [0,1] (and (%[1]s x) (l x)))) (%[1]s x))",
		"(and (q) (let %s (x) (r x x) (and (%[1]s x) (once [0,1] (and (l x) (%[1]s x))))))", "(let k (x) (let %s (x) (r x x) (and (%[1]s x) (once [0,1] (and (l x) (%[1]s x))))) (or (k x) (k x)))",
	} {
		for _, first := range []string{"(p x)", "(once [0,1] (p x))", "(and (p x) (q))", "(and (p x) (let k (x) (p x) (and (k x) (k x))))", "(let k (x) (p x) (and (k x) (k x)))", "(and (letpast p (x) (r x x) (p x)) (p x))", "(let p (x) (p x) (and (p x) (p x)))", "(before [0,1] (seq (test (p x)) any))"} {
			stays(t, lets, "(let l (x) "+first+" "+around(inner, "p")+")")
			becomes(t, lets, [2]string{"(let l (x) " + first + " " + around(inner, "s") + ")", strings.Replace(around(inner, "s"), "(l x)", first, 1)})
		}
		// What the first part tells itself is not asked for from there on.
		for _, first := range []string{"(let p (x) (r x x) (and (p x) (p x)))", "(letpast p (x) (or (r x x) (prev [0,1] (p x))) (p x))", "(and (r x x) (let p () (q) (and (p) (p))))"} {
			becomes(t, lets, [2]string{"(let l (x) " + first + " " + around(inner, "p") + ")", strings.Replace(around(inner, "p"), "(l x)", first, 1)})
		}
	}
	// A variable, an Agg's name or a predicate that stands beside are not in the way.
	becomes(t, lets, [2]string{"(let l (x) (p x) (and (let p (x) (r x x) (and (p x) (p x))) (l x)))", "(and (let p (x) (r x x) (and (p x) (p x))) (p x))"}, [2]string{"(let l (x) (p x) (agg p cnt x () (l x)))", "(agg p cnt x () (p x))"}, [2]string{"(let l (p) (p p) (exists (p) (l p)))", "(exists (p) (p p))"}, [2]string{"(let p (x) (p x) (once [0,1] (p x)))", "(once [0,1] (p x))"})
}

// TestNoDeeper: P16.2 to P16.4, what becomes as deep as the Let is, and what would become deeper.
func TestNoDeeper(t *testing.T) {
	for n := range 8 {
		for m := range 8 {
			f := "(let l (x) " + onces(n, "(p x)") + " " + onces(m, "(l x)") + ")"
			// The first part's depth is n + 2, the second one's m + 2.
			if n+m+2 <= max(n, m)+3 {
				becomes(t, lets, [2]string{f, onces(n+m, "(p x)")})
			} else {
				stays(t, lets, f)
			}
			// Something deep elsewhere in the Let makes room, elsewhere around it does not.
			becomes(t, lets, [2]string{"(let l (x) " + onces(n, "(p x)") + " (and " + onces(m, "(l x)") + " " + onces(n+m, "(q)") + "))", "(and " + onces(n+m, "(p x)") + " " + onces(n+m, "(q)") + ")"})
			if n+m+2 > max(n, m)+3 {
				stays(t, lets, "(and "+f+" "+onces(20, "(q)")+")")
			}
		}
	}
	// What no formula may be that deep as is no deeper than the Let neither.
	for _, n := range []int{2, 3, 10, 11, 12, 20, 21} {
		for _, m := range []int{2, 9, 10, 11, 19, 20, 21} {
			stays(t, lets, "(let l (x) "+onces(n, "(p x)")+" "+onces(m, "(l x)")+")")
		}
	}
	// What is told is as deep as may be.
	becomes(t, lets, [2]string{"(let l (x) " + onces(1, "(p x)") + " " + onces(21, "(l x)") + ")", onces(22, "(p x)")}, [2]string{"(let l (x) " + onces(21, "(p x)") + " " + onces(1, "(l x)") + ")", onces(22, "(p x)")})
	// A part that becomes less deep takes the room, whichever comes first.
	promised(t, "(let l (x) "+onces(2, "(p x)")+" (and "+onces(2, "(l x)")+" "+onces(3, "(let k () (q) (let k () (q) (k)))")+"))", "(let l (x) (let k (x) (p x) (once [0,1] (k x))) (and "+onces(2, "(l x)")+" "+onces(2, "(let k () (q) (k))")+"))")
}
