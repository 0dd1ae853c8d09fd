package rewrite_test

import (
	"slices"
	"strings"
	"testing"

	"custos/api"
	"custos/ast"
	"custos/static"
	"custos/typing"
)

// row is a case and what it becomes.
type row struct {
	c        call
	is, gets string
}

// rowsOfX are cases with the variable x, rowsOfNone such without variables: each row of the table of rules is among them.
func rowsOfX() []row {
	return []row{
		{units, "(and (p x) true)", "(p x)"}, {units, "(and true (p x))", "(p x)"}, {units, "(and (p x) (p x))", "(p x)"}, {units, "(or (p x) (p x))", "(p x)"},
		{units, "(once [0,1] (exists (y) (exists (z) (and (r x y) (p z)))))", "(once [0,1] (exists (y z) (and (r x y) (p z))))"}, {units, "(join (p x))", "(p x)"},
		{joins, "(and (and (p x) (q)) (p x))", "(join (p x) (q) (p x))"}, {joins, "(and (and (p x) (not (q))) (not (r x x)))", "(join (p x) (not (q)) (not (r x x)))"},
		{joins, "(join (q) (join (p x)))", "(join (q) (p x))"}, {joins, "(join (and (p x) (q)))", "(join (p x) (q))"}, {joins, "(join (q) (and (p x) (not (r x x))))", "(join (q) (p x) (not (r x x)))"},
		{lets, "(let l (y) (p y) (p x))", "(p x)"}, {lets, "(letpast l (y) (or (p y) (prev [0,*] (l y))) (p x))", "(p x)"}, {lets, "(let l (x) (p x) (l x))", "(p x)"}, {lets, "(let l (x) (once [0,1] (p x)) (and (q) (l x)))", "(and (q) (once [0,1] (p x)))"},
	}
}

func rowsOfNone() []row {
	return []row{
		{units, "(and (q) true)", "(q)"}, {units, "(and true (q))", "(q)"}, {units, "(or (q) false)", "(q)"}, {units, "(or false (q))", "(q)"}, {units, "(and (q) (q))", "(q)"}, {units, "(or (q) (q))", "(q)"},
		{units, "(once [0,1] (not true))", "(once [0,1] false)"}, {units, "(once [0,1] (not false))", "(once [0,1] true)"}, {units, "(exists (y) (exists (z) (r y z)))", "(exists (y z) (r y z))"}, {units, "(join (q))", "(q)"},
		{nots, "(not (not (q)))", "(q)"}, {nots, "(once [0,1] (not (not (not (not (q))))))", "(once [0,1] (q))"},
		{joins, "(and (not (q)) (and (q) (exists (x) (p x))))", "(join (q) (exists (x) (p x)) (not (q)))"}, {joins, "(join (join (q)) (not (q)))", "(join (q) (not (q)))"},
		{lets, "(let l (y) (p y) (q))", "(q)"}, {lets, "(letpast l () (or (q) (prev [0,*] (l))) (q))", "(q)"}, {lets, "(let l () (q) (l))", "(q)"}, {lets, "(let l () (once [0,1] (q)) (or (q) (l)))", "(or (q) (once [0,1] (q)))"},
	}
}

// places have F where another formula may stand, A for one that has its variables, V for these, N for a predicate that is told. In none of them is a case but F.
func places() []string {
	return []string{
		"F", "(or F A)", "(or A F)", "(and A (not (once [0,1] F)))", "(prev [0,*] F)", "(next [0,5] F)", "(once [1,2] F)", "(soon [0,3] F)",
		"(since [0,*] F A)", "(since [1,2] A F)", "(since [0,*] (not (once [0,1] F)) A)", "(until [0,3] F A)", "(until [0,3] A F)", "(until [0,3] (not (once [0,1] F)) A)",
		"(before [0,9] (test F))", "(before [0,*] (seq any (test F)))", "(after [0,9] (seq (test F) (seq any (test A))))", "(before [0,9] (alt (test A) (seq any (test F))))", "(after [1,2] (alt (seq (test F) any) (test A)))",
		"(join (once [0,1] F) A)", "(join A (not F))", "(join A (not (or A F)))", "(join (or A F) A)",
		"(let n V F (or N (once [0,1] N)))", "(let n V A (or N (or N F)))", "(letpast n V (or F (prev [0,*] N)) N)", "(letpast n V (or A (prev [0,1] (or N F))) N)", "(letpast n V (or A (prev [0,1] N)) (or N F))",
	}
}

// placesOfX are more, where a variable may be; and placesOfNone, where none must be.
func placesOfX() []string {
	return []string{"(exists (x) (once [0,1] F))", "(agg n cnt x () F)", "(agg n max x () F)", "(not (exists (x) (once [0,1] F)))", "(before [0,1] (star (test (exists (x) (once [0,1] F)))))", "(and A (not F))", "(and F (< x 2))", "(and F (= y (+ x 1)))"}
}

func placesOfNone() []string {
	return []string{"(not (once [0,1] F))", "(before [0,9] (star (seq any (test F))))", "(since [0,*] F (p x))", "(and (p x) (not (once [0,1] F)))", "(or (not (once [0,1] F)) F)"}
}

func inPlace(place, f string, ofX bool) string {
	a := strings.NewReplacer("F", f, "A", "(bi 1)", "V", "()", "N", "(n)")
	if ofX {
		a = strings.NewReplacer("F", f, "A", "(bi x)", "V", "(x)", "N", "(n x)")
	}
	return a.Replace(place)
}

// TestWithin: P16.1 to P16.6, each row of the table within each kind of part.
func TestWithin(t *testing.T) {
	s := stream(162)
	try := func(r row, place string, ofX bool) {
		f, g := inPlace(place, r.is, ofX), inPlace(place, r.gets, ofX)
		becomes(t, r.c, [2]string{f, g})
		simple, _ := all.does(formula(t, f))
		meansTheSame(t, &s, formula(t, f), 2, formula(t, g), simple)
	}
	aside := func(r row, ofX bool) {
		for _, place := range []string{"(join F A)", "(join A F)", "(once [0,1] (join A F))", "(join A (not (join A F)))"} {
			if f := inPlace(place, r.is, ofX); r.c.name != joins.name && static.Check(formula(t, f)) == api.OK {
				stays(t, r.c, f)
			}
		}
		if r.c.name != joins.name {
			try(r, "(and A F)", ofX)
			try(r, "(and F A)", ofX)
		}
	}
	for _, r := range rowsOfX() {
		for _, place := range append(places(), placesOfX()...) {
			try(r, place, true)
		}
		if r.is[1:5] != "once" {
			aside(r, true)
		}
	}
	for _, r := range rowsOfNone() {
		for _, place := range append(places(), placesOfNone()...) {
			try(r, place, false)
		}
		if r.is[1:5] != "once" {
			aside(r, false)
		}
	}
}

// TestAllSmall: P16.1 to P16.6, all small formulas within one another, twice, and some of those thrice.
func TestAllSmall(t *testing.T) {
	t.Parallel()
	atoms := []string{"true", "false", "(q)", "(bi x)", "(p x)", "(l x)", "(l)", "(= x 1)", "(= 1 2)"}
	outer := []string{
		"F", "(not F)", "(and F true)", "(and true F)", "(or F false)", "(and F F)", "(or F F)", "(and (bi x) F)", "(and F (q))", "(and (p x) (not F))", "(and F (< x 2))", "(and F (= y (+ x 1)))", "(exists (x) F)", "(exists (y) (and F (r x y)))", "(once [0,1] F)", "(since [0,*] F (bi x))", "(since [0,*] (not F) (bi x))",
		"(join F)", "(join (bi x) F)", "(join F (q) (not (p 1)))", "(join (bi x) (not F))", "(let l (x) F (l x))", "(let l (x) (p x) F)", "(let l () F (not (l)))", "(let l () (not (q)) F)", "(let p (x) (bi x) F)", "(let n (x) F (or (n x) (p x)))", "(letpast l (x) (p x) F)", "(letpast l (x) (or (p x) (prev [0,1] F)) (l x))", "(before [0,1] (seq (test F) any))",
	}
	s := stream(163)
	typed := 0
	var cases [5]int
	for _, a := range atoms {
		for _, b := range outer {
			for _, c := range outer {
				for i, d := range outer {
					if i > 0 && !s.chance(40) {
						continue
					}
					f := formula(t, strings.ReplaceAll(d, "F", strings.ReplaceAll(c, "F", strings.ReplaceAll(b, "F", a))))
					if static.Check(f) != api.OK {
						continue
					}
					for i, n := range asPromised(t, f) {
						cases[i] += min(n, 1)
					}
					if _, e := typing.Infer(signature(), f); e == api.OK {
						typed++
						meansTheSame(t, &s, f, 1, tells(f)...)
					}
				}
			}
		}
	}
	if typed < 4000 || slices.Min(cases[:]) < 20 {
		t.Error(typed, cases)
	}
}

// tells are what the calls tell of a formula, where it is not the formula itself.
func tells(f api.Formula) []api.Formula {
	var l []api.Formula
	for _, c := range calls() {
		if g, _ := c.does(f); !ast.Same(f, g) && !slices.ContainsFunc(l, func(h api.Formula) bool { return ast.Same(g, h) }) {
			l = append(l, g)
		}
	}
	return l
}
