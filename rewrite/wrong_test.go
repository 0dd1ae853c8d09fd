package rewrite_test

import (
	"slices"
	"strconv"
	"strings"
	"testing"

	"custos/api"
	"custos/ast"
	"custos/static"
)

// refused asks that each call tells an error, and nothing beside it.
func refused(t *testing.T, f api.Formula, want api.Errno) {
	t.Helper()
	for _, c := range calls() {
		if g, e := c.does(f); e != want || !ast.Same(g, api.Formula{}) {
			t.Errorf("%s of %s: %s, %d, want %d", c.name, textOf(f), textOf(g), e, want)
		}
	}
}

// wrongs are formulas that may not be, by their error, with nine variables or without.
func wrongs() map[api.Errno][]api.Formula {
	yes, x := of(api.True), variable("x")
	far := yes
	for range api.MaxDepth {
		far = of(api.Not, far)
	}
	of9 := of(api.And, api.Formula{Kind: api.Pred, Name: "p"}, api.Formula{Kind: api.Pred, Name: "p"})
	for i := range 9 {
		at := &of9.Subs[i/5].Terms
		*at = append(*at, variable("x"+strconv.Itoa(i)))
	}
	long := api.Term{Kind: api.Const, Value: api.Value{Kind: api.Str, S: strings.Repeat("a", api.MaxText+1)}}
	return map[api.Errno][]api.Formula{
		api.ErrDeep: {far},
		api.ErrMany: {of(api.Join, slices.Repeat([]api.Formula{yes}, api.MaxNodes)...), {Kind: api.Pred, Name: "p", Terms: slices.Repeat([]api.Term{x}, 7)}, {Kind: api.Let, Name: "l", Vars: strings.Split("abcdefg", ""), Subs: []api.Formula{yes, yes}}, {Kind: api.Exists, Vars: strings.Split("abcdefghi", ""), Subs: []api.Formula{yes}}},
		api.ErrKind: {{}, {Kind: 23}, {Kind: -1}, {Kind: api.Pred, Name: "p", Terms: []api.Term{{}}}, {Kind: api.Before, Regex: []api.Regex{{}}}, of(api.Not, api.Formula{}), {Kind: api.Equal, Terms: []api.Term{x, {Kind: api.Const}}}},
		api.ErrArg:  {of(api.And, yes), of(api.And, yes, yes, yes), of(api.Or), of(api.Not), of(api.Not, yes, yes), of(api.Join), {Kind: api.Pred, Name: "not"}, {Kind: api.Exists, Subs: []api.Formula{yes}}, {Kind: api.Exists, Vars: []string{"x"}}, {Kind: api.Let, Name: "l", Subs: []api.Formula{yes}}, {Kind: api.Let, Name: "not", Subs: []api.Formula{yes, yes}}, {Kind: api.LetPast, Name: "l"}, {Kind: api.Next, I: api.Interval{Lo: 5, Hi: 3}, Subs: []api.Formula{yes}}, {Kind: api.After, I: api.Interval{Hi: 1}}, {Kind: api.True, Op: 1}},
		api.ErrVars: {{Kind: api.Exists, Vars: []string{"x", "x"}, Subs: []api.Formula{{Kind: api.Pred, Name: "p", Terms: []api.Term{x}}}}, {Kind: api.Agg, Name: "y", Op: api.Cnt, Vars: []string{"x", "y"}, Subs: []api.Formula{yes}}, {Kind: api.Let, Name: "l", Vars: []string{"x", "x"}, Subs: []api.Formula{yes, yes}}, of9},
		api.ErrLong: {{Kind: api.Pred, Name: "p", Terms: []api.Term{long}}},
	}
}

// TestWrong: P16.1, each error of a formula that may not be, ahead of that of one that is not accepted, also where a rule would let it go.
func TestWrong(t *testing.T) {
	yes, no, px, notPx := of(api.True), of(api.False), formula(t, "(p x)"), formula(t, "(not (p x))")
	let := func(g, h api.Formula) api.Formula {
		return api.Formula{Kind: api.Let, Name: "l", Subs: []api.Formula{g, h}}
	}
	for e, l := range wrongs() {
		for _, f := range l {
			if got := ast.Check(f); got != e {
				t.Fatal(f, got, e)
			}
			refused(t, f, e)
			if e == api.ErrDeep || e == api.ErrMany && len(f.Subs) > 2 {
				continue
			}
			for _, g := range []api.Formula{of(api.Not, f), of(api.Not, of(api.Not, f)), of(api.And, yes, f), of(api.And, f, yes), of(api.Or, f, no), of(api.And, f, f), of(api.Join, f), of(api.Join, of(api.Join, f)), of(api.And, notPx, f), of(api.And, of(api.And, f, notPx), px), of(api.Or, px, of(api.And, notPx, f)), let(f, yes), let(yes, f), let(notPx, f), let(f, notPx),
				{Kind: api.Soon, I: api.Interval{Open: true}, Subs: []api.Formula{f}}, {Kind: api.Before, I: api.Interval{Open: true}, Regex: []api.Regex{{Kind: api.Star, Subs: []api.Regex{{Kind: api.Test, Test: []api.Formula{of(api.And, px, f)}}}}}}} {
				refused(t, g, e)
			}
		}
	}
	// The first one in the order of the text is told.
	refused(t, of(api.And, api.Formula{}, of(api.And)), api.ErrKind)
	refused(t, of(api.And, of(api.And), api.Formula{}), api.ErrArg)
	refused(t, of(api.Or, of(api.Join, wrongs()[api.ErrLong][0], of(api.Not)), api.Formula{}), api.ErrLong)
	refused(t, of(api.Or, wrongs()[api.ErrVars][3], api.Formula{}), api.ErrKind)
	refused(t, of(api.Or, wrongs()[api.ErrVars][2], api.Formula{}), api.ErrVars)
}

// TestRefused: P16.1, formulas that may be and are not accepted, also where a rule's change would make them so.
func TestRefused(t *testing.T) {
	for _, s := range []string{
		"(not (p x))", "(not (not (p x)))", "(and true (not (p x)))", "(and (not (p x)) true)", "(and true (< x 1))", "(and (< x 1) (< x 1))", "(or (p x) false)", "(or false (p x))", "(or (p x) (q))", "(not (and (p x) true))", "(and (p x) (not (not (p x))))",
		"(exists (x) (p y))", "(exists (x) (exists (x) (p x)))", "(exists (x y) (exists (y z) (r y z)))", "(exists (x) (exists (y) (p y)))", "(exists (a b c d) (exists (d e f g h) (and (p a) (p a))))", "(join (not (q)))", "(join (not (q)) (p x))", "(join (not (not (p x))))", "(join (join (not (q)) (q)) (q))",
		"(and (and (p x) (q)) (not (r x y)))", "(and (and (not (p x)) (p x)) (q))", "(and (and (p x) (q)) (< x y))", "(and (p x) (and (not (r x x)) (q)))", "(join (p x) (q) (not (p y)))", "(join (p x) (not (q)) (q))", "(and (p (+ 1 2)) true)",
		"(let l (x) (p y) (q))", "(let l () (p x) (q))", "(let l (x) (not (p x)) (q))", "(let l (x y) (p x) (l x y))", "(let l () (soon [0,*] (q)) (q))", "(let l () (q) (not (p x)))", "(letpast l (x) (l x) (q))", "(letpast l () (soon [0,1] (q)) (q))", "(letpast l () (or (q) (prev [0,*] (soon [0,1] (l)))) (q))", "(let l (x) (p x) (and (q) (not (l x))))", "(let l () (soon [0,1] (q)) (letpast n () (l) (q)))",
		"(and true (soon [0,*] (q)))", "(or false (until [0,*] (q) (q)))", "(not (not (after [0,*] any)))", "(before [0,1] (star (test (and true (p x)))))", "(before [0,1] (alt (test (p x)) any))", "(since [0,1] (and true (r x y)) (p x))", "(since [0,1] (and true (not (p x))) (p x))", "(since [0,1] (not (not (p x))) (p x))",
	} {
		f := formula(t, s)
		if static.Check(f) != api.ErrGuard {
			t.Fatal(s)
		}
		refused(t, f, api.ErrGuard)
		refused(t, of(api.And, of(api.And, f, of(api.True)), of(api.True)), api.ErrGuard)
		refused(t, api.Formula{Kind: api.Let, Name: "m", Subs: []api.Formula{f, of(api.True)}}, api.ErrGuard)
	}
}
