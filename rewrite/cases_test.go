package rewrite_test

import (
	"slices"
	"testing"

	"custos/api"
	"custos/ast"
	"custos/static"
)

// isCase is whether the part at a path is a case of a rule, by the chapter's table, if it is no part of a Join.
type isCase func(whole api.Formula, path []int) bool

// kids are a formula's parts, by their numbers.
func kids(f api.Formula) []api.Formula {
	l := slices.Clone(f.Subs)
	for _, r := range f.Regex {
		l = append(l, tests(r)...)
	}
	return l
}

func tests(r api.Regex) []api.Formula {
	l := slices.Clone(r.Test)
	for _, s := range r.Subs {
		l = append(l, tests(s)...)
	}
	return l
}

func at(f api.Formula, path []int) api.Formula {
	for _, n := range path {
		f = kids(f)[n]
	}
	return f
}

// paths are those of all parts, of the formula itself first.
func paths(f api.Formula) [][]int {
	l := [][]int{nil}
	for i, g := range kids(f) {
		for _, p := range paths(g) {
			l = append(l, append([]int{i}, p...))
		}
	}
	return l
}

// casesIn counts the cases of rules in a formula.
func casesIn(f api.Formula, rules ...isCase) int {
	n := 0
	for _, p := range paths(f) {
		if len(p) > 0 && at(f, p[:len(p)-1]).Kind == api.Join {
			continue
		}
		for _, is := range rules {
			if is(f, p) {
				n++
			}
		}
	}
	return n
}

func kindsOf(l []api.Formula) []int {
	var kinds []int
	for _, f := range l {
		kinds = append(kinds, f.Kind)
	}
	return kinds
}

func isUnit(whole api.Formula, path []int) bool {
	f := at(whole, path)
	l := f.Subs
	switch f.Kind {
	case api.And:
		return slices.Contains(kindsOf(l), api.True) || ast.Same(l[0], l[1])
	case api.Or:
		return slices.Contains(kindsOf(l), api.False) || ast.Same(l[0], l[1])
	case api.Not:
		return l[0].Kind == api.True || l[0].Kind == api.False
	case api.Exists:
		together := map[string]bool{}
		for _, x := range append(slices.Clone(f.Vars), l[0].Vars...) {
			together[x] = true
		}
		return l[0].Kind == api.Exists && len(together) <= 8
	case api.Join:
		return len(l) == 1
	}
	return false
}

func isTwiceNot(whole api.Formula, path []int) bool {
	f := at(whole, path)
	return f.Kind == api.Not && f.Subs[0].Kind == api.Not
}

func isJoined(whole api.Formula, path []int) bool {
	f := at(whole, path)
	l := piecesOf(f)
	switch f.Kind {
	case api.And:
		if !isOneOfTwo(f) || len(l) < 3 {
			return false
		}
	case api.Join:
		if !slices.ContainsFunc(f.Subs, func(g api.Formula) bool { return g.Kind == api.Join || isOneOfTwo(g) }) {
			return false
		}
	}
	return (f.Kind == api.And || f.Kind == api.Join) && slices.ContainsFunc(l, func(g api.Formula) bool { return g.Kind != api.Not })
}

// isOneOfTwo is whether it is an And of case 1 or 2.
func isOneOfTwo(f api.Formula) bool {
	return f.Kind == api.And && slices.Contains([]int{1, 2}, static.Case(f.Subs[0], f.Subs[1]))
}

func piecesOf(f api.Formula) []api.Formula {
	var l []api.Formula
	switch {
	case f.Kind == api.And && static.Case(f.Subs[0], f.Subs[1]) == 1:
		return append(piecesOf(f.Subs[0]), piecesOf(f.Subs[1])...)
	case f.Kind == api.And && static.Case(f.Subs[0], f.Subs[1]) == 2:
		return append(piecesOf(f.Subs[0]), f.Subs[1])
	case f.Kind == api.Join:
		for _, g := range f.Subs {
			l = append(l, piecesOf(g)...)
		}
		return l
	}
	return []api.Formula{f}
}

// teller is how long the path is of the Let or LetPast that tells the Pred at a path; -1, if none does.
func teller(f api.Formula, path []int) int {
	name := at(f, path).Name
	for n := len(path) - 1; n >= 0; n-- {
		g := at(f, path[:n])
		if g.Name == name && (g.Kind == api.Let && path[n] == 1 || g.Kind == api.LetPast) {
			return n
		}
	}
	return -1
}

func isNeedless(whole api.Formula, path []int) bool {
	f := at(whole, path)
	if f.Kind != api.Let && f.Kind != api.LetPast {
		return false
	}
	asked := map[string]bool{}
	var told [][]int
	for _, p := range paths(f) {
		if at(f, p).Kind != api.Pred {
			continue
		}
		if p[0] == 0 && teller(f.Subs[0], p[1:]) < 0 {
			asked[at(f, p).Name] = true
		}
		if p[0] == 1 && teller(f, p) == 0 {
			told = append(told, p)
		}
	}
	if len(told) == 0 {
		return true
	}
	return f.Kind == api.Let && len(told) == 1 && f.Subs[0].Kind != api.Not && hasVars(at(f, told[0]), f.Vars) && !isHidden(f, told[0], asked) &&
		depthOf(replaced(f.Subs[1], told[0][1:], f.Subs[0])) <= depthOf(f)
}

func hasVars(f api.Formula, vars []string) bool {
	var names []string
	for _, t := range f.Terms {
		if t.Kind != api.Var {
			return false
		}
		names = append(names, t.Name)
	}
	return slices.Equal(names, vars)
}

// isHidden is whether a Let or LetPast within the second part tells one of these names, and the Pred at the path stands in it.
func isHidden(f api.Formula, path []int, asked map[string]bool) bool {
	for n := 1; n < len(path); n++ {
		if g := at(f, path[:n]); (g.Kind == api.Let || g.Kind == api.LetPast) && asked[g.Name] {
			return true
		}
	}
	return false
}

// replaced is a formula with another one at a path.
func replaced(f api.Formula, path []int, g api.Formula) api.Formula {
	if len(path) == 0 {
		return g
	}
	f = ast.Clone(f)
	if len(f.Regex) == 0 {
		f.Subs[path[0]] = replaced(f.Subs[path[0]], path[1:], g)
		return f
	}
	n := path[0]
	var in func(r *api.Regex)
	in = func(r *api.Regex) {
		for i := range r.Test {
			if n == 0 {
				r.Test[i] = replaced(r.Test[i], path[1:], g)
			}
			n--
		}
		for i := range r.Subs {
			in(&r.Subs[i])
		}
	}
	in(&f.Regex[0])
	return f
}

// depthOf tells of formulas that are too deep to be, too.
func depthOf(f api.Formula) int {
	most := 0
	for _, t := range f.Terms {
		most = max(most, depthOfTerm(t))
	}
	for _, r := range f.Regex {
		most = max(most, depthOfRegex(r))
	}
	for _, g := range f.Subs {
		most = max(most, depthOf(g))
	}
	return 1 + most
}

func depthOfTerm(t api.Term) int {
	most := 0
	for _, s := range t.Subs {
		most = max(most, depthOfTerm(s))
	}
	return 1 + most
}

func depthOfRegex(r api.Regex) int {
	most := 0
	for _, g := range r.Test {
		most = max(most, depthOf(g))
	}
	for _, s := range r.Subs {
		most = max(most, depthOfRegex(s))
	}
	return 1 + most
}

// asPromised holds what each call tells of a formula against P16.1 to P16.4 and P16.6, and tells how many cases of each call's rules there were.
func asPromised(t *testing.T, f api.Formula) []int {
	t.Helper()
	was := ast.Clone(f)
	var counts []int
	for _, c := range calls() {
		g, e := c.does(f)
		if want := static.Check(f); e != want || e != api.OK && !ast.Same(g, api.Formula{}) {
			t.Fatalf("%s of %s: %s, %d, want %d", c.name, textOf(f), textOf(g), e, want)
		}
		if e != api.OK {
			counts = append(counts, 0)
			continue
		}
		n := casesIn(f, c.rules...)
		counts = append(counts, n)
		if n == 0 && !ast.Same(f, g) {
			t.Fatalf("P16.3: %s of %s: %s", c.name, textOf(f), textOf(g))
		}
		if casesIn(g, c.rules...) != 0 {
			t.Fatalf("P16.2: %s of %s: %s", c.name, textOf(f), textOf(g))
		}
		isNoGreater(t, c, f, g)
		if again, e := c.does(g); e != api.OK || !ast.Same(again, g) {
			t.Fatalf("P16.6: %s of %s: %s, and of that %s, %d", c.name, textOf(f), textOf(g), textOf(again), e)
		}
	}
	if !ast.Same(f, was) {
		t.Fatalf("%s has become %s", textOf(was), textOf(f))
	}
	return counts
}

// isNoGreater is P16.4.
func isNoGreater(t *testing.T, c call, f, g api.Formula) {
	t.Helper()
	before, _ := static.Reach(f)
	reach, e := static.Reach(g)
	switch {
	case e != api.OK, reach != before, !slices.Equal(ast.Free(f), ast.Free(g)), ast.Nodes(g) > ast.Nodes(f), ast.Depth(g) > ast.Depth(f), static.Quiet(f) && !static.Quiet(g):
		t.Fatalf("P16.4: %s of %s: %s, %d; reach %d and %d, nodes %d and %d, depth %d and %d", c.name, textOf(f), textOf(g), e, before, reach, ast.Nodes(f), ast.Nodes(g), ast.Depth(f), ast.Depth(g))
	}
}
