package static_test

import (
	"math"
	"slices"
	"strconv"
	"strings"
	"testing"

	"custos/api"
	"custos/ast"
	"custos/static"
	"custos/syntax"
)

func formula(t *testing.T, text string) api.Formula {
	t.Helper()
	f, e, at := syntax.Parse(text)
	if e != api.OK {
		t.Fatal(text, e, at)
	}
	return f
}

func textOf(f api.Formula) string {
	s, e := syntax.Print(f)
	if e != api.OK {
		return "a formula that may not be, " + strconv.Itoa(int(e))
	}
	return s
}

// refuses asks for an error, and nothing beside it.
func refuses(t *testing.T, f api.Formula, e api.Errno) {
	t.Helper()
	if got := static.Check(f); got != e {
		t.Errorf("%s: %d, want %d", textOf(f), got, e)
	}
	if n, got := static.Reach(f); got != e || n != 0 {
		t.Errorf("%s: reach %d, %d, want %d", textOf(f), n, got, e)
	}
}

func reaches(t *testing.T, f api.Formula, want int64) {
	t.Helper()
	if e := static.Check(f); e != api.OK {
		t.Errorf("%s: %d", textOf(f), e)
	}
	if n, e := static.Reach(f); e != api.OK || n != want {
		t.Errorf("%s: reach %d, %d, want %d", textOf(f), n, e, want)
	}
}

// accepted asks that each of these texts is accepted and has that reach.
func accepted(t *testing.T, reach int64, texts ...string) {
	t.Helper()
	for _, s := range texts {
		reaches(t, formula(t, s), reach)
	}
}

// refused asks that each of these texts is a formula that may be and is not accepted.
func refused(t *testing.T, texts ...string) {
	t.Helper()
	for _, s := range texts {
		refuses(t, formula(t, s), api.ErrGuard)
	}
}

// cased asks for the case of an And, and whether the And is accepted.
func cased(t *testing.T, want int, g string, texts ...string) {
	t.Helper()
	for _, h := range texts {
		if got := static.Case(formula(t, g), formula(t, h)); got != want {
			t.Errorf("%s, %s: case %d, want %d", g, h, got, want)
		}
		e := api.OK
		if want == 0 {
			e = api.ErrGuard
		}
		if got := static.Check(formula(t, "(and "+g+" "+h+")")); got != e {
			t.Errorf("(and %s %s): %d, want %d", g, h, got, e)
		}
	}
}

// TestExamples: P10.1, P10.2, the chapter's table.
func TestExamples(t *testing.T) {
	accepted(t, 0, "(and (p x) (not (q x)))", "(and (p x) (< x 3))", "(and (p x) (= y (+ x 1)))", "(and (p x) (= 3 x))")
	cased(t, 2, "(p x)", "(not (q x))")
	cased(t, 3, "(p x)", "(< x 3)")
	cased(t, 4, "(p x)", "(= y (+ x 1))")
	cased(t, 1, "(p x)", "(= 3 x)")
	refused(t, "(and (< x 3) (p x))", "(and (p x) (not (q x y)))", "(and (p x) (= y (+ y 1)))", "(= x x)", "(p (+ x 1))")
	accepted(t, 8, "(next [0,5] (soon [1,3] (p x)))")
	accepted(t, 7, "(until [2,7] (not (p x)) (q x y))")
	refused(t, "(since [0,*] (q x y) (p x))", "(or (p x) (q x y))", "(soon [0,*] (p x))", "(before [0,3] (star (test (p x))))")
	accepted(t, 4, "(let r (x) (soon [0,4] (p x)) (once [0,1] (r x)))")
	accepted(t, 0, "(let r (x) (soon [0,4] (p x)) (p x))")
	accepted(t, 0, "(letpast r (x) (or (p x) (prev [0,*] (r x))) (r x))")
	refused(t, "(letpast r (x) (or (p x) (r x)) (r x))", "(letpast r (x) (or (p x) (once [1,*] (r x))) (r x))")
}

// TestExamplesOfTheWhole: P10.1, those of the document.
func TestExamplesOfTheWhole(t *testing.T) {
	accepted(t, 0, "(p x)", "(once [0,5] (p x))", `(since [0,*] (not (q x "a")) (p x))`, "(and (p x) (= y (+ x 1)))", "(agg n cnt x () (p x))", "(agg m max x () (p x))",
		"(let r (x) (exists (y) (q x y)) (and (p x) (not (r x))))", "(letpast r (x) (or (p x) (prev [0,*] (r x))) (r x))",
		"(before [0,9] (seq (test (p x)) (seq any (test (q x y)))))", "(exists (y) (q x y))")
	accepted(t, 3, "(soon [0,3] (p x))")
	refused(t, "(not (p x))", "(and (p x) (< y 3))", "(or (p x) (q x y))", "(soon [0,*] (p x))", "(since [0,1] (q x y) (p x))")
}

// TestAtoms: P10.1, True, False, Pred and the comparisons by themselves.
func TestAtoms(t *testing.T) {
	accepted(t, 0, "true", "false", "(p)", "(p x)", "(p x x)", `(p 1 "a" -1/2 x)`, "(p 1)", "(p a b c d e f)")
	accepted(t, 0, "(= 1 2)", `(= "a" 1)`, "(= (+ 1 2) 3)", "(= 3 (* 1 (- 2 1)))", "(= x 1)", "(= 1 x)", "(= x (+ 1 2))", "(= (- 1 (+ 2 3)) x)", `(= x "")`)
	accepted(t, 0, "(< 1 2)", "(< (+ 1 2) 3)", "(<= 1 2)", `(<= "b" (* 2 3))`)
	for _, sign := range []string{"+", "-", "*"} {
		sum := "(" + sign + " 1 2)"
		of := "(" + sign + " 1 x)"
		refused(t, "(p "+sum+")", "(p "+of+")", "(p x 1 "+sum+")", "(p "+sum+" x)", "(= "+of+" 1)", "(= 1 "+of+")", "(= x "+of+")", "(= "+of+" x)", "(= y "+of+")", "(= "+of+" y)", "(= "+of+" "+of+")",
			"(= ("+sign+" x x) 1)", "(= 1 ("+sign+" 1 ("+sign+" 2 x)))", "(< "+of+" 1)", "(< 1 "+of+")", "(<= "+of+" 1)", "(<= 1 "+of+")")
	}
	refused(t, "(= x x)", "(= x y)", "(< x 1)", "(< 1 x)", "(< x y)", "(< x x)", "(<= x 1)", "(<= 1 x)", "(<= x x)", "(<= y x)")
}

// TestNotAndOr: P10.1, Not, Or.
func TestNotAndOr(t *testing.T) {
	accepted(t, 0, "(not true)", "(not (p))", "(not (p 1))", "(not (exists (x) (p x)))", "(not (not (q)))", "(not (= 1 2))", "(not (< 1 2))", "(not (exists (n) (agg n cnt x () (p x))))")
	accepted(t, 5, "(not (soon [0,5] (q)))", "(not (not (next [2,5] (q))))")
	refused(t, "(not (p x))", "(not (= x 1))", "(not (< x 1))", "(not (not (p x)))", "(not (p (+ 1 2)))", "(not (soon [0,*] (q)))", "(not (exists (x) (p y)))")
	accepted(t, 0, "(or (p x) (q x))", "(or true (p 1))", "(or (p x y) (q y x))", "(or (= x 1) (= 2 x))", "(or (p x) (and (q x) (not (r x))))", "(or (p x) (p x x))", "(or (not (p)) (not (q)))")
	accepted(t, 3, "(or (soon [0,3] (p x)) (next [0,2] (p x)))", "(or (next [1,2] (p x)) (soon [0,3] (p x)))", "(or (p x) (next [0,3] (p x)))", "(or (next [0,3] (p x)) (p x))")
	refused(t, "(or (p x) (q y))", "(or (p x) (q))", "(or (q) (p x))", "(or (p x y) (q x))", "(or (p x) (q x y))", "(or (p x) (not (q x)))", "(or (not (q x)) (p x))", "(or (p x) (< x 1))", "(or (< x 1) (p x))",
		"(or (p x) (= x (+ x 1)))", "(or (= x x) (p x))", "(or (p) (p (+ 1 2)))", "(or (p (+ 1 2)) (p))", "(or (soon [0,*] (p x)) (p x))")
}

// TestExistsAndAgg: P10.1, Exists, Agg.
func TestExistsAndAgg(t *testing.T) {
	accepted(t, 0, "(exists (x) (p x))", "(exists (y) (p x y))", "(exists (y x) (p x y))", "(exists (x) (= x 1))", "(exists (a) (exists (b) (p a b c)))")
	accepted(t, 6, "(exists (x) (soon [0,6] (p x)))")
	refused(t, "(exists (x) (p))", "(exists (x) (p y))", "(exists (x y) (p x))", "(exists (y x) (p x))", "(exists (x) (not (p x)))", "(exists (x) (< x 1))", "(exists (x) (exists (x) (p x)))", "(exists (x) (agg y cnt x () (p x)))", "(exists (x) (soon [0,*] (p x)))")
	for _, op := range []string{"sum", "cnt", "min", "max", "avg", "med"} {
		head := "(agg y " + op + " x "
		accepted(t, 0, head+"() (p x))", head+"() (p x y))", head+"(z) (p x y z))", head+"(w z) (p x z w))", "(agg x "+op+" x () (p x))", "(agg x "+op+" x (y) (p x y))")
		accepted(t, 4, head+"(z) (until [0,4] (p x) (q x z)))")
		refused(t, head+"() (p))", head+"() (p y))", head+"(z) (p x))", head+"(z) (p x y))", head+"(z) (p z))", head+"(w z) (p x w))", head+"(w z) (p x z))",
			head+"() (not (p x)))", head+"() (< x 1))", head+"() (= x x))", head+"() (next [0,*] (p x)))", "(and (p y) "+head+"() (p x y z (+ 1 2))))")
	}
}

// TestIntervals: P10.1, Open intervals and bounded ones, of each kind that has one; how far each looks ahead.
func TestIntervals(t *testing.T) {
	for _, kind := range []string{"prev", "once"} {
		accepted(t, 0, "("+kind+" [0,5] (p x))", "("+kind+" [0,*] (p x))", "("+kind+" [7,*] (q))", "("+kind+" [0,1099511627776] (p x))")
		accepted(t, 4, "("+kind+" [0,5] (soon [1,4] (p x)))", "("+kind+" [9,*] (soon [1,4] (p x)))")
		refused(t, "("+kind+" [0,5] (not (p x)))", "("+kind+" [0,*] (< x 1))", "("+kind+" [0,*] (next [0,*] (p x)))")
	}
	for _, kind := range []string{"next", "soon"} {
		accepted(t, 5, "("+kind+" [0,5] (p x))", "("+kind+" [5,5] (q))")
		accepted(t, 0, "("+kind+" [0,0] (p x))")
		accepted(t, 9, "("+kind+" [0,5] ("+kind+" [1,4] (p x)))", "("+kind+" [2,5] (not (exists (x) (soon [0,4] (p x)))))", "("+kind+" [0,5] (once [0,*] (soon [1,4] (p x))))", "(prev [0,9] ("+kind+" [9,9] (p x)))")
		accepted(t, api.MaxTime, "("+kind+" [0,1099511627776] (p x))", "("+kind+" [1099511627776,1099511627776] (p x))")
		refused(t, "("+kind+" [0,*] (p x))", "("+kind+" [7,*] (q))", "("+kind+" [0,5] (not (p x)))", "("+kind+" [0,5] (< x 1))", "("+kind+" [0,5] ("+kind+" [0,*] (p x)))", "(once [0,5] ("+kind+" [0,*] (p x)))")
	}
	accepted(t, 0, "(since [0,*] (p x) (q x))", "(since [0,3] (p x) (q x))", "(before [0,*] any)", "(before [0,3] any)")
	accepted(t, 3, "(until [0,3] (p x) (q x))", "(until [3,3] (p x) (q x))", "(after [0,3] any)", "(after [3,3] any)")
	refused(t, "(until [0,*] (p x) (q x))", "(until [5,*] (not (p x)) (q x))", "(after [0,*] any)", "(after [2,*] (test (p x)))")
}

// TestSinceAndUntil: P10.1, what the first part may be, and its variables.
func TestSinceAndUntil(t *testing.T) {
	for head, reach := range map[string]int64{"(since [0,5] ": 0, "(since [2,*] ": 0, "(until [0,5] ": 5} {
		accepted(t, reach, head+"(p x) (q x))", head+"(p x) (q x y))", head+"(p y) (q x y))", head+"(q) (p x))", head+"true true)", head+"(= x 1) (p x))", head+"(= 1 2) (q))",
			head+"(not (p x)) (q x))", head+"(not (p x)) (q x y))", head+"(not (q)) (p x))", head+"(not (q)) (q))", head+"(not (= x 1)) (p x))", head+"(not (not (q))) (p x))", head+"(not (< 1 2)) (p x))", head+"(not (and (p x) (< x 3))) (p x))", head+"(p x x) (p x))")
		refused(t, head+"(q x y) (p x))", head+"(p y) (p x))", head+"(p x) (q))", head+"(not (p y)) (p x))", head+"(not (q x y)) (p x))", head+"(not (p x)) (q))",
			head+"(p x) (not (p x)))", head+"(q) (not (p x)))", head+"(p x) (< x 3))", head+"(not (p x)) (not (p x)))", head+"(p x) (p (+ 1 2) x))",
			head+"(< x 3) (p x))", head+"(not (< x 3)) (p x))", head+"(= x x) (p x))", head+"(not (= x x)) (p x))", head+"(not (not (p x))) (p x))", head+"(p x (+ 1 2)) (p x))", head+"(not (p x (+ 1 2))) (p x))", head+"(not (soon [0,*] (p x))) (p x))", head+"(soon [0,*] (p x)) (p x))", head+"(p x) (soon [0,*] (p x)))")
	}
	for head, more := range map[string]int64{"(since [0,5] ": 0, "(since [1,*] ": 0, "(until [0,5] ": 5, "(until [1,9] ": 9} {
		accepted(t, 4+more, head+"(soon [0,4] (p x)) (q x))", head+"(p x) (soon [0,4] (q x)))", head+"(next [0,3] (p x)) (soon [0,4] (q x)))", head+"(soon [0,4] (p x)) (next [0,3] (q x)))", head+"(not (soon [0,4] (p x))) (next [0,3] (q x)))", head+"(not (next [0,3] (p x))) (soon [0,4] (q x)))")
	}
}

// TestRegexes: P10.1, each kind of regex, in Before and in After.
func TestRegexes(t *testing.T) {
	for head, more := range map[string]int64{"(before [0,5] ": 0, "(before [1,*] ": 0, "(after [0,5] ": 5, "(after [3,3] ": 3} {
		accepted(t, more, head+"any)", head+"(test (p x)))", head+"(test (not (q))))", head+"(test (= x 1)))",
			head+"(alt any any))", head+"(alt any (test (q))))", head+"(alt (test (p x)) (test (q x))))", head+"(alt (seq (test (p x)) (test (q y))) (test (r y x))))", head+"(alt (seq (test (p x)) any) (test (q x))))",
			head+"(seq any any))", head+"(seq (test (p x)) any))", head+"(seq any (test (p x))))", head+"(seq (test (p x)) (test (q y))))", head+"(seq (test (p x)) (test (q x))))", head+"(seq (test (p x)) (seq (star any) (test (q y z)))))",
			head+"(star any))", head+"(star (test (q))))", head+"(star (star (alt any (test (not (q)))))))", head+"(star (test (p 1))))", head+"(star (seq any (test (exists (x) (p x))))))")
		refused(t, head+"(test (not (p x))))", head+"(test (< x 1)))", head+"(test (= x y)))", head+"(test (p (+ 1 2))))",
			head+"(alt any (test (p x))))", head+"(alt (test (p x)) any))", head+"(alt (test (p x)) (test (q y))))", head+"(alt (test (p x)) (test (q x y))))", head+"(alt (test (q x y)) (test (p x))))", head+"(alt (test (not (p x))) (test (p x))))", head+"(alt (test (p x)) (test (not (p x)))))",
			head+"(seq (test (p x)) (test (not (q x)))))", head+"(seq (test (not (q x))) (test (p x))))", head+"(seq any (test (< 1 x))))", head+"(seq (alt any (test (p x))) any))",
			head+"(star (test (p x))))", head+"(star (seq any (test (p x)))))", head+"(star (star (test (p x)))))", head+"(star (test (not (p x)))))", head+"(star (test (p (+ 1 2)))))", head+"(seq any (star (test (p x)))))")
		accepted(t, 4+more, head+"(test (soon [0,4] (p x))))", head+"(seq (test (next [0,3] (p x))) (test (soon [0,4] (p x)))))", head+"(seq (test (soon [0,4] (p x))) (test (next [0,3] (p x)))))", head+"(alt (test (p x)) (test (soon [0,4] (p x)))))", head+"(star (alt any (seq (test (next [0,4] (q))) any))))",
			head+"(test (before [0,9] (test (soon [0,4] (p x))))))", head+"(test (after [0,3] (seq any (test (next [0,1] (p x)))))))")
		refused(t, head+"(test (soon [0,*] (p x))))", head+"(test (after [0,*] any)))", head+"(seq any (test (until [0,*] (p x) (q x)))))")
	}
}

// TestJoin: P10.1, those ahead of the first Not, and those behind it.
func TestJoin(t *testing.T) {
	accepted(t, 0, "(join (p x))", "(join true)", "(join (p x) (q x y))", "(join (p x) (q y) (r z))", "(join (p x) (not (q x)))", "(join (p x) (not (q)))", "(join (q) (not (q)))", "(join (p x) (q y) (not (r x y)))", "(join (p x) (q y) (not (r x y)) (not (p y)) (not (q)))", "(join (= x 1) (not (= x 2)))", "(join (= 1 2))",
		"(join (p x) (not (not (q))))", "(join (p x) (not (and (p x) (< x 1))))", "(join (join (p x)) (not (join (p x) (not (q x)))))", "(join (p y) (p x) (not (q y)))")
	refused(t, "(join (not (q)))", "(join (not (q)) (p x))", "(join (not (p x)))", "(join (not (p x)) (p x))", "(join (p x) (not (q)) (p x))", "(join (p x) (not (q x)) (r x))", "(join (p x) (not (q x)) true)", "(join (p x) (not (q x)) (r x) (not (r x)))",
		"(join (p x) (not (q y)))", "(join (p x) (not (q x y)))", "(join (q) (not (p x)))", "(join (p x) (not (q x)) (not (q y)))", "(join (p x) (not (q y)) (not (q x)))",
		"(join (p x) (< x 1))", "(join (< x 1) (p x))", "(join (p x) (= y x))", "(join (p x) (= x x))", "(join (p x) (not (< x 1)))", "(join (p x) (not (= x x)))", "(join (p x) (not (not (p x))))", "(join (p x) (p (+ 1 2)))", "(join (p (+ 1 2)) (p x))", "(join (p x) (not (p (+ 1 2))))", "(join (p x) (soon [0,*] (q)))", "(join (p x) (not (soon [0,*] (q))))", "(join (p x) (or (p x) (q y)) (not (q x)))")
	accepted(t, 4, "(join (p x) (soon [0,4] (p y)))", "(join (soon [0,4] (p y)) (p x) (not (next [0,3] (p y))))", "(join (p x) (not (soon [0,4] (p x))))", "(join (p x) (not (q)) (not (next [0,2] (p x))) (not (soon [0,4] (p x))))")
}

// TestLetVars: P10.1, Vars are those of the first part, in any order.
func TestLetVars(t *testing.T) {
	for _, kind := range []string{"let", "letpast"} {
		accepted(t, 0, "("+kind+" r (x) (p x) (r y))", "("+kind+" r () (q) (r))", "("+kind+" r (x y) (p x y) (r x y))", "("+kind+" r (y x) (p x y) (r x y))", "("+kind+" r (c a b) (p a b c) (q))", "("+kind+" r (f e d c b a) (p a b c d e f) true)", "("+kind+" r (x) (p x) (r 1 2 3))", "("+kind+" r (x) (p x) (and (p x) (not (r x))))")
		refused(t, "("+kind+" r () (p x) (r x))", "("+kind+" r (x) (q) (r x))", "("+kind+" r (y) (p x) (r y))", "("+kind+" r (x) (p x y) (r x))", "("+kind+" r (y) (p x y) (r x))", "("+kind+" r (x y) (p x) (r x y))", "("+kind+" r (y x) (p x) (r x y))", "("+kind+" r (x z) (p x y) (r x y))", "("+kind+" r (y x) (p z) (q))",
			"("+kind+" r (x) (not (p x)) (r x))", "("+kind+" r (x) (< x 1) (r x))", "("+kind+" r (x) (p x) (not (r x)))", "("+kind+" r (x) (p x) (r (+ x 1)))", "("+kind+" r (x) (p x) (< x 1))", "("+kind+" r (x) (p x (+ 1 2)) (q))", "("+kind+" r (x) (p x) (soon [0,*] (q)))", "("+kind+" r () (p x) (q))")
	}
}

// TestLetPast: P10.1, a LetPast that names itself inside of a Prev and outside of it, and what hides its name.
func TestLetPast(t *testing.T) {
	accepted(t, 0, "(letpast r () (prev [0,*] (r)) (r))", "(letpast r (x) (prev [0,*] (r x)) (r x))", "(letpast r (x) (prev [0,*] (once [0,*] (or (p x) (r x)))) (r x))", "(letpast r (x) (once [0,*] (prev [0,1] (r x))) (r x))", "(letpast r (x) (p x) (r x))", "(letpast r (x) (p x) (once [0,3] (r x)))",
		"(letpast r (x) (or (prev [0,1] (r x)) (prev [0,2] (r x))) (r x))", "(letpast r (x) (and (p x) (not (prev [0,*] (r x)))) (r x))", "(letpast r (x) (prev [0,*] (prev [0,*] (r x))) (r x))", "(letpast r (x) (since [0,*] (prev [0,1] (r x)) (p x)) (r x))", "(letpast r (x) (before [0,5] (seq (test (prev [0,*] (r x))) any)) (r x))", "(letpast r (x) (prev [0,1] (before [0,5] (test (r x)))) (r x))", "(letpast r (x) (agg x max y () (prev [0,1] (r y))) (r x))", "(letpast r (x) (exists (y) (prev [0,1] (r x y))) (r x))", "(letpast r (x) (join (p x) (not (prev [0,1] (r x)))) (r x))")
	refused(t, "(letpast r () (r) (r))", "(letpast r (x) (or (r x) (prev [0,*] (r x))) (r x))", "(letpast r (x) (or (prev [0,*] (r x)) (r x)) (r x))", "(letpast r (x) (or (prev [0,*] (r x)) (r x)) (q))", "(letpast r (x) (since [0,*] (r x) (prev [0,*] (r x))) (r x))", "(letpast r (x) (since [0,*] (prev [0,*] (r x)) (r x)) (r x))", "(letpast r (x) (and (p x) (not (r x))) (r x))", "(letpast r (x) (join (p x) (not (r x))) (r x))", "(letpast r (x) (before [0,5] (test (r x))) (r x))", "(letpast r (x) (before [1,*] (seq (test (p x)) (alt (test (r x)) (test (r x))))) (r x))", "(letpast r (x) (agg x max y () (r y)) (r x))", "(letpast r (x) (exists (y) (r x y)) (r x))", "(prev [0,*] (letpast r (x) (r x) (r x)))", "(letpast r (x) (once [1,*] (r x)) (r x))", "(letpast r () (not (r)) (r))")
	// It counts which LetPast tells it, and whether the Prev stands within that one's first part.
	accepted(t, 0, "(letpast r (x) (let r (x) (p x) (r x)) (r x))", "(letpast r (x) (let s (x) (prev [0,1] (r x)) (s x)) (r x))", "(letpast r (x) (prev [0,1] (let s (x) (r x) (s x))) (r x))", "(letpast r (x) (let r (x) (prev [0,1] (r x)) (r x)) (r x))", "(letpast r (x) (letpast r (x) (prev [0,1] (r x)) (r x)) (r x))", "(letpast r (x) (letpast s (x) (prev [0,1] (or (r x) (s x))) (s x)) (r x))", "(let r (x) (p x) (letpast s (x) (or (r x) (prev [0,1] (s x))) (s x)))", "(letpast s (x) (p x) (letpast r (x) (or (s x) (prev [0,1] (r x))) (r x)))", "(letpast r (x) (let r (y) (p y) (letpast s (x) (r x) (r x))) (r x))", "(letpast r (x) (p x) (let s (x) (r x) (r x)))", "(let r (x) (p x) (let s (x) (r x) (letpast r (x) (s x) (r x))))")
	refused(t, "(letpast r (x) (let r (x) (r x) (r x)) (r x))", "(letpast r (x) (let s (x) (r x) (s x)) (r x))", "(letpast r (x) (let s (x) (p x) (r x)) (r x))", "(letpast r (x) (let s (x) (r x) (prev [0,1] (s x))) (r x))", "(letpast r (x) (let r (x) (r x) (prev [0,1] (r x))) (r x))", "(letpast r (x) (letpast s (x) (r x) (s x)) (r x))", "(letpast r (x) (letpast s (x) (p x) (r x)) (r x))", "(letpast r (x) (letpast r (x) (r x) (r x)) (r x))", "(prev [0,1] (letpast r (x) (letpast s (x) (prev [0,1] (r x)) (or (s x) (r x))) (r x)))", "(letpast r (x) (prev [0,1] (letpast s (x) (s x) (r x))) (r x))", "(letpast r (x) (p x) (letpast r (x) (r x) (r x)))", "(letpast r (x) (let r (x) (or (p x) (r x)) (p x)) (r x))")
}

// TestLetPastLooksBack: P10.1, the first part of a LetPast has the reach 0, also through what is told around it.
func TestLetPastLooksBack(t *testing.T) {
	accepted(t, 0, "(letpast r (x) (next [0,0] (p x)) (r x))", "(letpast r (x) (soon [0,0] (prev [0,1] (r x))) (r x))", "(letpast r (x) (prev [0,1] (next [0,0] (r x))) (r x))", "(letpast r (x) (let s (x) (soon [0,4] (p x)) (p x)) (r x))")
	accepted(t, 4, "(letpast r (x) (p x) (soon [0,4] (r x)))", "(letpast r (x) (or (p x) (prev [0,*] (r x))) (and (r x) (next [0,4] (p x))))")
	refused(t, "(letpast r (x) (soon [0,1] (p x)) (r x))", "(letpast r (x) (soon [0,1] (p x)) (q))", "(letpast r (x) (or (p x) (prev [0,*] (next [0,1] (r x)))) (r x))", "(letpast r (x) (and (p x) (not (next [1,1] (p x)))) (r x))", "(letpast r (x) (since [0,*] (not (soon [0,2] (p x))) (p x)) (r x))", "(letpast r (x) (after [0,3] (test (p x))) (r x))", "(letpast r (x) (before [0,3] (test (next [0,1] (p x)))) (r x))", "(letpast r (x) (let s (x) (soon [0,4] (p x)) (s x)) (r x))", "(next [0,1] (letpast r (x) (until [0,1] (p x) (p x)) (r x)))")
	for _, g := range []string{"(s x)", "(or (p x) (s x))", "(prev [0,1] (s x))", "(and (p x) (not (s x)))", "(let u (x) (s x) (u x))", "(before [0,3] (test (s x)))"} {
		past := "(letpast r (x) " + g + " (r x))"
		accepted(t, 0, past, "(let s (x) (p x) "+past+")", "(let s (x) (next [0,0] (p x)) "+past+")", "(letpast s (x) (p x) "+past+")")
		refused(t, "(let s (x) (soon [0,4] (p x)) "+past+")", "(let u (x) (soon [0,4] (p x)) (let s (x) (prev [0,9] (u x)) "+past+"))", "(let s (x) (soon [0,4] (p x)) (and (p x) "+past+"))", "(let s (x) (soon [0,4] (p x)) (and (p x) (not "+past+")))", "(let s (x) (soon [0,4] (p x)) (prev [0,1] (or (p x) "+past+")))", "(let s (x) (soon [0,4] (p x)) (let s (x) (s x) "+past+"))")
		accepted(t, 0, "(let s (x) (soon [0,4] (p x)) (let s (x) (p x) "+past+"))", "(let s (x) (soon [0,4] (p x)) (letpast s (x) (p x) "+past+"))")
	}
	accepted(t, 4, "(let s (x) (soon [0,4] (p x)) (letpast r (x) (p x) (or (r x) (s x))))", "(let s (x) (soon [0,4] (p x)) (letpast s (x) (prev [0,1] (s x)) (soon [0,4] (s x))))")
	accepted(t, 0, "(let s (x) (soon [0,4] (p x)) (letpast s (x) (or (p x) (prev [0,1] (s x))) (s x)))")
}

// TestLetReach: P10.1, the reach through a Let's Pred, through several Lets, and of a Let whose Pred stands nowhere.
func TestLetReach(t *testing.T) {
	first := "(let r (x) (soon [0,4] (p x)) "
	accepted(t, 4, first+"(r x))", first+"(prev [0,9] (r x)))", first+"(or (p x) (r x)))", first+"(and (p x) (not (r x))))", first+"(join (p x) (not (r x))))", first+"(since [0,*] (not (r x)) (p x)))", first+"(before [0,9] (seq any (test (r x)))))", first+"(exists (x) (r x)))", first+"(agg n cnt x () (r x)))", first+"(not (r 1)))", first+"(r))", first+"(or (next [0,3] (p x)) (r x)))", first+"(once [0,*] (and (p x) (r x))))")
	accepted(t, 7, first+"(next [0,3] (r x)))", first+"(soon [3,3] (r x)))", first+"(until [0,3] (r x) (p x)))", first+"(until [0,3] (not (r x)) (p x)))", first+"(until [0,3] (p x) (r x)))", first+"(after [0,3] (seq (test (p x)) (test (r x)))))", first+"(or (soon [0,7] (p x)) (r x)))", "(next [0,3] "+first+"(r x)))", "(soon [0,2] "+first+"(next [1,1] (r x))))")
	accepted(t, 0, first+"(p x))", first+"true)", first+"(let r (x) (p x) (r x)))", first+"(letpast r (x) (p x) (r x)))", first+"(let s (x) (r x) (p x)))", first+"(let s (x) (next [0,9] (r x)) (p x)))", first+"(letpast r (x) (prev [0,1] (r x)) (r x)))", first+"(let r (x) (r x) (p x)))")
	accepted(t, 2, first+"(next [0,2] (p x)))", first+"(let r (x) (next [0,2] (p x)) (r x)))", "(or (next [0,2] (p x)) "+first+"(p x)))")
	// A first part sees what is told around its Let, and not its own name.
	accepted(t, 4, first+"(let r (x) (r x) (r x)))", first+"(let r (x) (once [0,1] (r x)) (r x)))", first+"(let s (x) (r x) (s x)))", first+"(let s (x) (p x) (or (r x) (s x))))", first+"(let s (x) (r x) (let r (x) (p x) (s x))))", first+"(letpast s (x) (p x) (or (s x) (r x))))", "(or (r x) "+first+"(r x)))")
	accepted(t, 9, first+"(let s (x) (next [0,5] (r x)) (s x)))", first+"(let r (x) (next [0,5] (r x)) (r x)))", first+"(let s (x) (r x) (next [0,5] (s x))))", first+"(let s (x) (r x) (let u (x) (next [0,5] (s x)) (or (u x) (r x)))))")
	accepted(t, 0, "(or (r x) "+first+"(p x)))", "(or "+first+"(p x)) (r x))", "(let s (x) (r x) "+first+"(s x)))", "(let r (x) (r x) (r x))", "(let s (x) (next [0,3] (s x)) (letpast r (x) (p x) (r x)))")
	accepted(t, 15, "(let a (x) (soon [0,1] (p x)) (let b (x) (soon [0,2] (a x)) (let c (x) (soon [0,4] (b x)) (soon [0,8] (c x)))))")
	// As far as a formula can look ahead: each level of depth as far as may be.
	text := "(p)"
	for range api.MaxDepth - 1 {
		text = "(next [0,1099511627776] " + text + ")"
	}
	accepted(t, (api.MaxDepth-1)*api.MaxTime, text)
	text = "(r)"
	for range 20 {
		text = "(let r () (soon [0,1099511627776] (next [1,1099511627776] (r))) " + text + ")"
	}
	accepted(t, 40*api.MaxTime, text)
}

// TestCases: P10.2, each case, and formulas that would fit two of them.
func TestCases(t *testing.T) {
	cased(t, 1, "(p x)", "true", "(q)", "(q x)", "(q y z)", "(= y 1)", "(= x 1)", "(= 1 2)", "(< 1 2)", "(<= (+ 1 2) 3)", "(= y (+ 1 2))", "(not (q))", "(not (q 1))", "(not (= 1 2))", "(not (< 1 2))", "(not (not (q)))", "(and (q y) (< y 1))", "(or (q x) (p x))", "(soon [0,3] (p y))", "(agg n cnt x () (p x))", "(since [0,*] (not (q y)) (r y))", "(join (p x) (not (q x)))", "(let r (x) (p x) (r y))")
	cased(t, 2, "(p x y)", "(not (q x))", "(not (q y))", "(not (q y x))", "(not (= x 1))", "(not (= 1 y))", "(not (= x (+ 1 2)))", "(not (and (q x) (< x 1)))", "(not (exists (z) (q x z)))", "(not (soon [0,3] (q x)))", "(not (agg y cnt z () (q z)))", "(not (join (q x) (not (r x))))", "(not (before [0,9] (test (q x))))", "(not (or (q x) (= x 1)))")
	cased(t, 3, "(p x y)", "(= x y)", "(= y x)", "(= x x)", "(= x (+ y 1))", "(= (+ x 1) y)", "(= (+ x 1) (* 2 y))", "(= (+ x 1) 2)", "(= 2 (- 1 y))", "(< x y)", "(< x 1)", "(< 1 x)", "(<= y x)", "(<= (+ x y) 1)", "(<= x x)",
		"(not (= x y))", "(not (= x x))", "(not (= x (+ y 1)))", "(not (= (+ x 1) 2))", "(not (< x y))", "(not (< x 1))", "(not (<= 1 y))", "(not (<= (+ x 1) y))")
	cased(t, 4, "(p x y)", "(= z x)", "(= x z)", "(= z (+ x 1))", "(= (+ x 1) z)", "(= z (* x (- y 2)))", "(= (* (+ x x) 2) z)")
	cased(t, 0, "(p x y)", "(not (q z))", "(not (q x z))", "(not (= z 1))", "(not (= z x))", "(not (= x z))", "(not (= z (+ x 1)))", "(not (< z x))", "(not (< x z))", "(not (<= z 1))", "(< z 1)", "(< x z)", "(<= z x)", "(<= 1 z)", "(= z z)", "(= z w)", "(= w z)", "(= z (+ w 1))", "(= z (+ z 1))", "(= (+ z 1) z)", "(= (+ z 1) 2)", "(= 2 (+ z 1))", "(= (+ z 1) x)", "(= x (+ z 1))", "(= (+ x z) (+ x y))",
		"(not (not (q x)))", "(not (not (= x y)))", "(not (not (< x 1)))", "(p (+ 1 2))", "(not (p (+ 1 2)))", "(not (p (+ x 2)))", "(or (p x) (< x 1))", "(or (p x) (q z))", "(not (or (p x) (q)))", "(soon [0,*] (q))", "(not (soon [0,*] (q)))", "(exists (z) (< x z))", "(and (< x 1) (q x))", "(and (= x y) (q x))")
	// Both parts without variables: nothing is among none but none.
	cased(t, 1, "(q)", "(= x 1)", "(= 1 2)", "(not (q))", "(p x)")
	cased(t, 0, "(q)", "(not (p x))", "(< x 1)", "(= x y)", "(= x x)", "(not (= x 1))", "(= x (+ y 1))", "(= (+ x 1) 2)")
}

// TestEqualOfTwoVariables: P10.2, in either order, with none, one and both among the first part's.
func TestEqualOfTwoVariables(t *testing.T) {
	for _, h := range []string{"(= x y)", "(= y x)"} {
		cased(t, 3, "(p x y)", h, "(not "+h+")")
		cased(t, 4, "(p x)", h)
		cased(t, 4, "(p y)", h)
		cased(t, 4, "(p y z)", h)
		cased(t, 0, "(p z)", h, "(not "+h+")")
		cased(t, 0, "(p x)", "(not "+h+")")
		cased(t, 0, "(p y)", "(not "+h+")")
		for _, sign := range []string{"<", "<="} {
			h := strings.Replace(h, "=", sign, 1)
			cased(t, 3, "(p x y)", h, "(not "+h+")")
			cased(t, 0, "(p x)", h, "(not "+h+")")
			cased(t, 0, "(p y)", h, "(not "+h+")")
			cased(t, 0, "(q)", h, "(not "+h+")")
		}
	}
	cased(t, 3, "(p x)", "(= x x)", "(not (= x x))")
	cased(t, 0, "(p x)", "(= y y)", "(not (= y y))")
}

// TestCaseOfAFirstPart: P10.2, a first part that is not accepted has no case, whatever the second one is.
func TestCaseOfAFirstPart(t *testing.T) {
	for _, g := range []string{"(not (p x))", "(< x 3)", "(= x y)", "(p (+ 1 2))", "(or (p x) (q y))", "(soon [0,*] (p x))", "(and (p x) (< y 3))", "(and (< x 3) (p x))", "(exists (y) (p x))", "(letpast r (x) (r x) (r x))", "(join (not (q)))"} {
		cased(t, 0, g, "true", "(p x)", "(p y)", "(not (p x))", "(not (q))", "(< x 3)", "(= z x)", "(= x 3)", "(< 1 2)")
	}
	for _, g := range []string{"(p x)", "(= x 3)", "(once [0,*] (p x))", "(and (p x) (not (q x)))", "(and (and (p x) (< x 3)) (q x))", "(or (p x) (q x))", "(exists (y) (p x y))", "(agg x cnt y () (p y))", "(let r (y) (p y) (r x))", "(before [0,*] (test (p x)))", "(join (p x) (not (q x)))"} {
		cased(t, 1, g, "true", "(p x)", "(p y)", "(not (q))", "(= x 3)", "(= y 3)")
		cased(t, 2, g, "(not (p x))", "(not (= x 3))")
		cased(t, 3, g, "(< x 3)", "(not (< x 3))", "(= x x)")
		cased(t, 4, g, "(= y x)", "(= (+ x 1) y)")
		cased(t, 0, g, "(< x y)", "(not (p y))", "(= y z)")
	}
}

// TestCaseSeesItsPartsAlone: P10.2, a predicate that is told around an And is the signature's for Case, and a Let's for Check.
func TestCaseSeesItsPartsAlone(t *testing.T) {
	past := "(letpast r (x) (s x) (r x))"
	cased(t, 1, "(s x)", past)
	cased(t, 1, past, "(s x)")
	cased(t, 2, "(p x)", "(not "+past+")")
	for _, f := range []string{"(and (s x) " + past + ")", "(and " + past + " (s x))", "(and (p x) (not " + past + "))"} {
		accepted(t, 0, f)
		refused(t, "(let s (x) (soon [0,4] (p x)) "+f+")")
	}
}

// TestNestedAnds: P10.1, what an And gives a value may be spoken of by the one around it.
func TestNestedAnds(t *testing.T) {
	accepted(t, 0, "(and (and (p x) (= y (+ x 1))) (< y 3))", "(and (and (p x) (= y (+ x 1))) (not (q y)))", "(and (and (and (p x) (= y x)) (= (* y x) z)) (<= z y))", "(exists (y) (and (and (p x) (= y (+ x 1))) (q y)))", "(and (p x) (and (q y) (< y 3)))", "(and (= x 1) (= x 2))", "(and (= x 1) (= y x))", "(and true (= x 1))")
	accepted(t, 3, "(and (p x) (not (soon [0,3] (q x))))", "(and (soon [0,3] (p x)) (< x 3))", "(and (soon [0,3] (p x)) (= y x))", "(and (next [0,2] (p x)) (soon [0,3] (q y)))", "(and (soon [0,3] (p x)) (next [0,2] (q y)))")
	refused(t, "(and (p x) (and (< x 3) (q x)))", "(and (p x) (and (= y x) (q y)))", "(and (and (p x) (< y 3)) (q y))", "(and (= x y) (p x))", "(and (not (q x)) (p x))", "(and (p x) (or (< x 3) (q x)))", "(and (p x) (exists (y) (= y x)))", "(and (p x) (not (and (not (q x)) (p x))))")
}

// TestQuiet: P10.2, each kind of term, each Op, deep within parts and tests.
func TestQuiet(t *testing.T) {
	quiet := []string{"true", "false", "(p)", "(p x 1)", `(p "a" 1/2)`, "(= x y)", "(< x 1)", "(<= 1 x)", "(not (p x))", "(agg n cnt x () (p x))", "(agg n min x () (p x))", "(agg n max x (y) (p x y))", "(soon [0,*] (p x))", "(or (p x) (q y))"}
	loud := []string{"(p (+ x 1))", "(p x (- 1 2))", "(= x (* x y))", "(= (+ 1 2) 3)", "(< x (- y 1))", "(<= (* 2 2) 1)", "(agg n sum x () (p x))", "(agg n avg x () (p x))", "(agg n med x (y) (p x y))"}
	around := []string{"%", "(not %)", "(and % true)", "(and true %)", "(or % (p x))", "(or (p x) %)", "(exists (x) %)", "(prev [0,1] %)", "(next [0,1] %)", "(once [0,1] %)", "(soon [0,1] %)", "(since [0,1] % true)", "(since [0,1] true %)", "(until [0,1] % true)", "(until [0,1] true %)", "(before [0,1] (test %))", "(after [0,1] (test %))", "(before [0,1] (alt any (test %)))", "(before [0,1] (alt (test %) any))", "(after [0,1] (seq any (test %)))", "(after [0,1] (seq (test %) any))", "(before [0,1] (star (seq any (star (test %)))))", "(agg n cnt x () %)", "(agg n min x () %)", "(agg n max x () %)", "(let r () % true)", "(let r () true %)", "(letpast r () % true)", "(letpast r () true %)", "(join % true)", "(join true % true)", "(join true true %)"}
	for _, a := range around {
		for _, b := range around {
			for _, g := range quiet {
				if s := strings.Replace(a, "%", strings.Replace(b, "%", g, 1), 1); !static.Quiet(formula(t, s)) {
					t.Error(s, "is quiet")
				}
			}
			for _, g := range loud {
				if s := strings.Replace(a, "%", strings.Replace(b, "%", g, 1), 1); static.Quiet(formula(t, s)) {
					t.Error(s, "is not quiet")
				}
			}
		}
	}
	for _, op := range []string{"sum", "avg", "med"} {
		if static.Quiet(formula(t, "(agg n "+op+" x () (agg x cnt y () (p y)))")) || static.Quiet(formula(t, "(agg x cnt y () (agg y "+op+" x () (p x)))")) {
			t.Error(op)
		}
	}
}

func sum(kind int, l ...api.Term) api.Term { return api.Term{Kind: kind, Subs: l} }

func of(kind int, l ...api.Formula) api.Formula { return api.Formula{Kind: kind, Subs: l} }

// TestQuietOfAny: P10.2, formulas that may not be: what is in them counts, in whatever field it stands.
func TestQuietOfAny(t *testing.T) {
	deep := sum(api.Var, sum(api.Const, sum(77, sum(api.Mul))))
	for i, f := range []api.Formula{
		{}, {Kind: -1}, {Kind: 77}, {Kind: math.MinInt}, {Kind: api.Add}, {Kind: api.Sub}, {Kind: api.Mul},
		{Kind: api.True, Op: api.Sum}, {Kind: api.Let, Op: api.Avg}, {Kind: 77, Op: api.Med}, {Op: api.Sum}, {Kind: api.Join, Op: api.Sum},
		{Kind: api.Agg}, {Kind: api.Agg, Op: api.Cnt}, {Kind: api.Agg, Op: api.Min}, {Kind: api.Agg, Op: api.Max}, {Kind: api.Agg, Op: -1}, {Kind: api.Agg, Op: 7}, {Kind: api.Agg, Op: math.MaxInt},
		{Kind: api.Pred, Terms: []api.Term{{}, {Kind: 2}, {Kind: 6}, {Kind: -1}, {Kind: math.MaxInt}}}, {Kind: api.Pred, Terms: []api.Term{sum(6, sum(1), sum(2), sum(0))}},
		{Regex: []api.Regex{{}, {Kind: api.Star}, {Kind: api.Seq}, {Kind: 3, Test: []api.Formula{{Kind: 3}, {Kind: 4}, {Kind: 5}}}, {Kind: 5, Subs: []api.Regex{{Kind: 4}, {Kind: 3}}}}},
		of(77, of(3), of(4), of(5), of(19)), {Name: "no name", Vars: []string{"", "", "+"}},
	} {
		if !static.Quiet(f) {
			t.Error(i, "is quiet")
		}
		for j, g := range hiding(f) {
			if !static.Quiet(g) {
				t.Error(i, j, "is quiet")
			}
		}
	}
	for i, f := range []api.Formula{
		{Kind: api.Agg, Op: api.Sum}, {Kind: api.Agg, Op: api.Avg}, {Kind: api.Agg, Op: api.Med},
		{Terms: []api.Term{sum(api.Add)}}, {Kind: api.True, Terms: []api.Term{sum(api.Sub)}}, {Kind: api.Or, Terms: []api.Term{sum(api.Mul)}},
		{Kind: api.Pred, Terms: []api.Term{{}, {}, {}, {}, {}, {}, {}, sum(api.Add)}}, {Kind: 77, Terms: []api.Term{deep}}, {Kind: api.Equal, Terms: []api.Term{{}, {}, deep, {}}},
		{Kind: api.Agg, Op: api.Cnt, Terms: []api.Term{sum(api.Var, sum(api.Add))}},
	} {
		if static.Quiet(f) {
			t.Error(i, "is not quiet")
		}
		for j, g := range hiding(f) {
			if static.Quiet(g) {
				t.Error(i, j, "is not quiet")
			}
		}
	}
}

// hiding are formulas that may not be with that one in them.
func hiding(f api.Formula) []api.Formula {
	return []api.Formula{
		of(api.True, f), of(0, f), of(77, api.Formula{}, f, api.Formula{}), of(api.Not, api.Formula{}, f), of(api.Pred, of(api.Equal, f)), of(api.Before, f), of(api.Agg, f),
		{Regex: []api.Regex{{Test: []api.Formula{f}}}}, {Kind: api.Or, Regex: []api.Regex{{}, {Kind: api.Any, Test: []api.Formula{{}, f}}}}, {Kind: api.After, Regex: []api.Regex{{Kind: 77, Subs: []api.Regex{{}, {Kind: api.Test, Subs: []api.Regex{{Test: []api.Formula{{}, {}, f}}}}}}}},
		{Kind: api.Before, Regex: []api.Regex{{Kind: api.Test, Test: []api.Formula{{Kind: api.After, Regex: []api.Regex{{Kind: api.Any}, {Kind: api.Star, Test: []api.Formula{f}}}}}}}},
	}
}

// wrongs are formulas that may not be, by their error.
func wrongs() map[api.Errno][]api.Formula {
	yes := api.Formula{Kind: api.True}
	far := yes
	for range api.MaxDepth {
		far = of(api.Not, far)
	}
	x := api.Term{Kind: api.Var, Name: "x"}
	of9 := of(api.And, api.Formula{Kind: api.Pred, Name: "p"}, api.Formula{Kind: api.Pred, Name: "p"})
	for i := range 9 {
		at := &of9.Subs[i/5].Terms
		*at = append(*at, api.Term{Kind: api.Var, Name: "x" + strconv.Itoa(i)})
	}
	long := api.Term{Kind: api.Const, Value: api.Value{Kind: api.Str, S: strings.Repeat("a", api.MaxText+1)}}
	return map[api.Errno][]api.Formula{
		api.ErrDeep: {far},
		api.ErrMany: {of(api.Join, slices.Repeat([]api.Formula{yes}, api.MaxNodes)...), {Kind: api.Pred, Name: "p", Terms: slices.Repeat([]api.Term{x}, 7)}, {Kind: api.Let, Name: "r", Vars: []string{"a", "b", "c", "d", "e", "f", "g"}, Subs: []api.Formula{yes, yes}}},
		api.ErrKind: {{}, {Kind: 23}, {Kind: -1}, {Kind: api.Pred, Name: "p", Terms: []api.Term{{}}}, {Kind: api.Before, Regex: []api.Regex{{}}}, of(api.Not, api.Formula{}), {Kind: api.Equal, Terms: []api.Term{x, {Kind: api.Const}}}},
		api.ErrArg:  {of(api.And, yes), of(api.Join), {Kind: api.Pred, Name: "not"}, {Kind: api.Exists, Subs: []api.Formula{yes}}, {Kind: api.Next, I: api.Interval{Lo: 5, Hi: 3}, Subs: []api.Formula{yes}}, {Kind: api.Soon, I: api.Interval{Open: true, Hi: 3}, Subs: []api.Formula{yes}}, {Kind: api.Equal, Terms: []api.Term{x}}, {Kind: api.After, I: api.Interval{Hi: 1}}, {Kind: api.True, Op: 1}},
		api.ErrVars: {{Kind: api.Exists, Vars: []string{"x", "x"}, Subs: []api.Formula{{Kind: api.Pred, Name: "p", Terms: []api.Term{x}}}}, {Kind: api.Agg, Name: "y", Op: api.Cnt, Vars: []string{"x", "y"}, Subs: []api.Formula{yes}}, of9},
		api.ErrLong: {{Kind: api.Pred, Name: "p", Terms: []api.Term{long}}},
	}
}

// TestWrong: P10.1, P10.2, each error of a formula that may not be, ahead of that of one that is not accepted.
func TestWrong(t *testing.T) {
	yes, px, notPx := formula(t, "true"), formula(t, "(p x)"), formula(t, "(not (p x))")
	for e, l := range wrongs() {
		for _, f := range l {
			if got := ast.Check(f); got != e {
				t.Fatal(f, got, e)
			}
			refuses(t, f, e)
			if e == api.ErrDeep || e == api.ErrMany && len(f.Subs) > 2 {
				continue
			}
			refuses(t, of(api.Not, f), e)
			refuses(t, of(api.And, notPx, f), e)
			refuses(t, of(api.And, f, notPx), e)
			refuses(t, of(api.Or, px, of(api.And, notPx, f)), e)
			refuses(t, api.Formula{Kind: api.Soon, I: api.Interval{Open: true}, Subs: []api.Formula{f}}, e)
		}
		for _, f := range l {
			for _, g := range []api.Formula{yes, px, notPx, f} {
				if n := static.Case(g, f); n != 0 {
					t.Error(textOf(g), f, n)
				}
				if n := static.Case(f, g); n != 0 {
					t.Error(f, textOf(g), n)
				}
			}
		}
	}
}

// TestCaseAtTheLimits: P10.2, parts that may be each, and whose And is too deep, too great, or has too many variables.
func TestCaseAtTheLimits(t *testing.T) {
	yes := formula(t, "true")
	deep := func(depth int) api.Formula {
		f := yes
		for range depth - 1 {
			f = of(api.Not, f)
		}
		return f
	}
	wide := func(nodes int) api.Formula { return of(api.Join, slices.Repeat([]api.Formula{yes}, nodes-1)...) }
	ofVars := func(first, n int) api.Formula {
		f := api.Formula{Kind: api.Pred, Name: "p"}
		for i := range n {
			f.Terms = append(f.Terms, api.Term{Kind: api.Var, Name: string(rune('a' + first + i))})
		}
		return f
	}
	for i, x := range []struct {
		g, h api.Formula
		want int
	}{
		{yes, deep(23), 1}, {deep(23), yes, 1}, {yes, deep(24), 0}, {deep(24), yes, 0}, {deep(23), deep(23), 1}, {deep(24), deep(24), 0},
		{yes, wide(254), 1}, {wide(254), yes, 1}, {yes, wide(255), 0}, {wide(255), yes, 0}, {wide(128), wide(127), 1}, {wide(128), wide(128), 0},
		{ofVars(0, 6), ofVars(6, 2), 1}, {ofVars(0, 6), ofVars(6, 3), 0}, {ofVars(0, 2), ofVars(2, 6), 1}, {ofVars(0, 3), ofVars(3, 6), 0}, {ofVars(0, 6), ofVars(2, 6), 1}, {ofVars(0, 6), ofVars(3, 6), 0},
	} {
		if static.Check(x.g) != api.OK || static.Check(x.h) != api.OK {
			t.Fatal(i)
		}
		if got := static.Case(x.g, x.h); got != x.want {
			t.Errorf("%d: case %d, want %d", i, got, x.want)
		}
	}
}
