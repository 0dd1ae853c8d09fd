package static_test

import (
	"fmt"
	"maps"
	"slices"
	"strconv"
	"strings"
	"testing"

	"custos/api"
	"custos/ast"
	"custos/static"
)

// names is a set of them.
type names map[string]bool

func set(l ...string) names {
	s := names{}
	for _, x := range l {
		s[x] = true
	}
	return s
}

func both(a, b names) names {
	s := maps.Clone(a)
	maps.Copy(s, b)
	return s
}

func minus(a, b names) names {
	s := maps.Clone(a)
	maps.DeleteFunc(s, func(x string, _ bool) bool { return b[x] })
	return s
}

func among(a, b names) bool { return len(minus(a, b)) == 0 }

func same(a, b names) bool { return maps.Equal(a, b) }

// free is what the document's section 'Words' says.
func free(f api.Formula) names {
	switch f.Kind {
	case api.Pred, api.Equal, api.Less, api.AtMost:
		return inTerms(f.Terms...)
	case api.Exists:
		return minus(free(f.Subs[0]), set(f.Vars...))
	case api.Agg:
		return both(set(f.Name), set(f.Vars[1:]...))
	case api.Let, api.LetPast:
		return free(f.Subs[1])
	case api.Before, api.After:
		return inRegex(f.Regex[0])
	}
	s := names{}
	for _, g := range f.Subs {
		s = both(s, free(g))
	}
	return s
}

func inTerms(l ...api.Term) names {
	s := names{}
	for _, t := range l {
		if t.Kind == api.Var {
			s[t.Name] = true
		}
		s = both(s, inTerms(t.Subs...))
	}
	return s
}

func inRegex(r api.Regex) names {
	s := names{}
	for _, g := range tests(r) {
		s = both(s, free(g))
	}
	return s
}

func tests(r api.Regex) []api.Formula {
	l := slices.Clone(r.Test)
	for _, s := range r.Subs {
		l = append(l, tests(s)...)
	}
	return l
}

// around is the Lets and LetPasts around a formula that tell something in it, the innermost one first.
type around struct {
	let  api.Formula
	more *around
}

func (w *around) find(name string) *around {
	for ; w != nil; w = w.more {
		if w.let.Name == name {
			return w
		}
	}
	return nil
}

// isAccepted goes by the chapter's table, row by row.
func isAccepted(f api.Formula, w *around) bool {
	part := func(i int) bool { return isAccepted(f.Subs[i], w) }
	switch f.Kind {
	case api.True, api.False:
		return true
	case api.Pred:
		for _, t := range f.Terms {
			if t.Kind != api.Var && t.Kind != api.Const {
				return false
			}
		}
		return true
	case api.Equal:
		a, b := f.Terms[0], f.Terms[1]
		n, m := len(inTerms(a)), len(inTerms(b))
		return n == 0 && m == 0 || a.Kind == api.Var && m == 0 || b.Kind == api.Var && n == 0
	case api.Less, api.AtMost:
		return len(inTerms(f.Terms...)) == 0
	case api.Not:
		return part(0) && len(free(f)) == 0
	case api.And:
		return part(0) && theCase(f.Subs[0], f.Subs[1], w) != 0
	case api.Or:
		return part(0) && part(1) && same(free(f.Subs[0]), free(f.Subs[1]))
	case api.Exists:
		return part(0) && among(set(f.Vars...), free(f.Subs[0]))
	case api.Prev, api.Once:
		return part(0)
	case api.Next, api.Soon:
		return part(0) && !f.I.Open
	case api.Since, api.Until:
		g := f.Subs[0]
		if g.Kind == api.Not {
			g = g.Subs[0]
		}
		return part(1) && isAccepted(g, w) && among(free(g), free(f.Subs[1])) && (f.Kind == api.Since || !f.I.Open)
	case api.Before, api.After:
		return isAcceptedRegex(f.Regex[0], w) && (f.Kind == api.Before || !f.I.Open)
	case api.Agg:
		return part(0) && among(set(f.Vars...), free(f.Subs[0])) && !slices.Contains(f.Vars[1:], f.Name)
	case api.Let:
		return part(0) && isAccepted(f.Subs[1], &around{f, w}) && same(set(f.Vars...), free(f.Subs[0]))
	case api.LetPast:
		in := &around{f, w}
		return isAccepted(f.Subs[0], in) && isAccepted(f.Subs[1], in) && same(set(f.Vars...), free(f.Subs[0])) && !namesNow(f.Subs[0], f.Name) && reach(f.Subs[0], in) == 0
	case api.Join:
		return isAcceptedJoin(f.Subs, w)
	}
	panic(f.Kind)
}

// isAcceptedJoin tries each number of first ones.
func isAcceptedJoin(l []api.Formula, w *around) bool {
	for n := 1; n <= len(l); n++ {
		vars, ok := names{}, true
		for _, g := range l[:n] {
			vars = both(vars, free(g))
			ok = ok && g.Kind != api.Not && isAccepted(g, w)
		}
		for _, h := range l[n:] {
			ok = ok && h.Kind == api.Not && isAccepted(h.Subs[0], w) && among(free(h), vars)
		}
		if ok {
			return true
		}
	}
	return false
}

func isAcceptedRegex(r api.Regex, w *around) bool {
	for _, g := range r.Test {
		if !isAccepted(g, w) {
			return false
		}
	}
	for _, s := range r.Subs {
		if !isAcceptedRegex(s, w) {
			return false
		}
	}
	switch r.Kind {
	case api.Alt:
		return same(inRegex(r.Subs[0]), inRegex(r.Subs[1]))
	case api.Star:
		return len(inRegex(r)) == 0
	}
	return true
}

func compares(f api.Formula) bool {
	return f.Kind == api.Equal || f.Kind == api.Less || f.Kind == api.AtMost
}

// theCase is of a first part that is accepted.
func theCase(g, h api.Formula, w *around) int {
	of := free(g)
	switch {
	case isAccepted(h, w):
		return 1
	case h.Kind == api.Not && isAccepted(h.Subs[0], w) && among(free(h.Subs[0]), of):
		return 2
	case (compares(h) || h.Kind == api.Not && compares(h.Subs[0])) && among(free(h), of):
		return 3
	case h.Kind != api.Equal:
		return 0
	}
	for i, x := range h.Terms {
		if x.Kind == api.Var && !of[x.Name] {
			if among(inTerms(h.Terms[1-i]), of) {
				return 4
			}
			return 0
		}
	}
	return 0
}

// namesNow is whether a Pred of that name stands in a formula, in no Prev's part, that no Let or LetPast within it tells.
func namesNow(f api.Formula, name string) bool {
	switch {
	case f.Kind == api.Pred:
		return f.Name == name
	case f.Kind == api.Prev, f.Kind == api.LetPast && f.Name == name:
		return false
	case f.Kind == api.Let && f.Name == name:
		return namesNow(f.Subs[0], name)
	}
	l := slices.Clone(f.Subs)
	for _, r := range f.Regex {
		l = append(l, tests(r)...)
	}
	return slices.ContainsFunc(l, func(g api.Formula) bool { return namesNow(g, name) })
}

// reach goes through a Let's first part anew at each Pred that it tells.
func reach(f api.Formula, w *around) int64 {
	in := w
	l := f.Subs
	switch f.Kind {
	case api.Pred:
		at := w.find(f.Name)
		if at == nil || at.let.Kind == api.LetPast {
			return 0
		}
		return reach(at.let.Subs[0], at.more)
	case api.Let, api.LetPast:
		in, l = &around{f, w}, f.Subs[1:]
	case api.Before, api.After:
		l = tests(f.Regex[0])
	}
	var n int64
	for _, g := range l {
		n = max(n, reach(g, in))
	}
	switch f.Kind {
	case api.Next, api.Soon, api.Until, api.After:
		n += f.I.Hi
	}
	return n
}

// isQuiet looks at all texts of a formula that may be.
func isQuiet(f api.Formula) bool {
	text := textOf(f)
	for _, s := range []string{"(+ ", "(- ", "(* ", " sum ", " avg ", " med "} {
		if strings.Contains(text, s) {
			return false
		}
	}
	return true
}

// asMeant holds what is answered of a formula that may be against the model, and tells whether it is accepted.
func asMeant(t *testing.T, f api.Formula) bool {
	t.Helper()
	e, n := api.ErrGuard, int64(0)
	if isAccepted(f, nil) {
		e, n = api.OK, reach(f, nil)
	}
	if got := static.Check(f); got != e {
		t.Fatalf("%s: %d, want %d", textOf(f), got, e)
	}
	if got, gotE := static.Reach(f); got != n || gotE != e {
		t.Fatalf("%s: reach %d, %d, want %d, %d", textOf(f), got, gotE, n, e)
	}
	if got := static.Quiet(f); got != isQuiet(f) {
		t.Fatalf("%s: quiet %v", textOf(f), got)
	}
	if f.Kind == api.And {
		caseAsMeant(t, f.Subs[0], f.Subs[1])
	}
	return e == api.OK
}

func caseAsMeant(t *testing.T, g, h api.Formula) int {
	t.Helper()
	want := 0
	if isAccepted(g, nil) && ast.Check(of(api.And, g, h)) == api.OK {
		want = theCase(g, h, nil)
	}
	if got := static.Case(g, h); got != want {
		t.Fatalf("%s, %s: case %d, want %d", textOf(g), textOf(h), got, want)
	}
	return want
}

// TestAllSmall: P10.1, P10.2, all pairs of parts that are each one atom within one other formula.
func TestAllSmall(t *testing.T) {
	atoms := []string{"true", "(p x)", "(q y x)", "(= x y)", "(= 1 x)", "(= y (+ x 1))", "(= (* x 1) 2)", "(< x 1)", "(r x)", "(r y)"}
	outer := []string{
		"%s", "(not %s)", "(not (not %s))", "(exists (x) %s)", "(agg x cnt y () %s)", "(agg y sum x (z) %s)", "(next [0,2] %s)", "(soon [1,*] %s)", "(prev [0,*] %s)",
		"(since [0,*] (not (p x)) %s)", "(until [0,1] %s (q x y))", "(before [0,1] (test %s))", "(after [0,3] (star (test %s)))", "(join %s (not (p x)))", "(join (p y) %s)", "(join (q x y) (not %s))",
		"(let r (x) %s (r y))", "(let r (y x) %s (next [0,1] (r y)))", "(letpast r (x) %s (r y))", "(letpast r (x) (prev [0,1] %s) (r x))", "(let r (x) (soon [0,5] (p x)) %s)",
	}
	var parts []api.Formula
	for _, g := range outer {
		for _, a := range atoms {
			parts = append(parts, formula(t, fmt.Sprintf(g, a)))
		}
	}
	taken, cases := 0, [5]int{}
	for _, a := range parts {
		if asMeant(t, a) {
			taken++
		}
		for _, b := range parts {
			cases[caseAsMeant(t, a, b)]++
			asMeant(t, of(api.And, a, b))
			asMeant(t, of(api.Or, a, b))
			asMeant(t, api.Formula{Kind: api.Since, I: api.Interval{Lo: 1, Open: true}, Subs: []api.Formula{a, b}})
			asMeant(t, api.Formula{Kind: api.Until, I: api.Interval{Lo: 1, Hi: 7}, Subs: []api.Formula{a, b}})
			asMeant(t, of(api.Join, a, b))
		}
	}
	if taken < 60 || taken > 150 || slices.Min(cases[:]) < 60 {
		t.Error(taken, cases)
	}
}

// TestAllRegexes: P10.1, all regexes of up to three tests and steps.
func TestAllRegexes(t *testing.T) {
	l := []string{"any", "(test (p x))", "(test (q x y))", "(test (next [0,3] (p y)))", "(test (q))", "(test (not (p x)))"}
	for _, s := range slices.Clone(l) {
		l = append(l, "(star "+s+")")
	}
	taken, all := 0, 0
	for _, a := range l {
		for _, b := range l {
			for _, c := range l {
				for _, shape := range []string{"(alt %s (seq %s %s))", "(seq (alt %s %s) %s)", "(star (seq %s (alt %s %s)))", "(alt (star %s) (seq %s %s))"} {
					r := fmt.Sprintf(shape, a, b, c)
					all++
					if asMeant(t, formula(t, "(before [0,*] "+r+")")) {
						taken++
					}
					asMeant(t, formula(t, "(after [1,6] "+r+")"))
				}
			}
		}
	}
	if taken < 300 || taken > all-300 {
		t.Error(taken, all)
	}
}

// TestAllLets: P10.1, all rows of three formulas that tell predicates, around one that names them.
func TestAllLets(t *testing.T) {
	outer := []string{
		"%s", "(prev [0,*] %s)", "(next [0,1] %s)", "(or (r x) %s)", "(and (p x) (not %s))",
		"(let r (x) (p x) %s)", "(let r (x) (soon [0,4] (p x)) %s)", "(let r (x) (soon [0,2] (r x)) %s)", "(let s (x) (next [0,8] (r x)) %s)", "(let r (x) %s (r x))", "(let s (x) %s (r x))", "(let r (x) %s (prev [0,1] (s x)))",
		"(letpast r (x) (p x) %s)", "(letpast r (x) (prev [0,1] (s x)) %s)", "(letpast s (x) (prev [0,1] (or (r x) (s x))) %s)", "(letpast r (x) %s (r x))", "(letpast s (x) %s (r x))", "(letpast r (x) %s (next [0,3] (s x)))",
	}
	taken, all := 0, 0
	for _, a := range []string{"(r x)", "(s x)", "(prev [0,1] (r x))", "(or (p x) (prev [0,2] (s x)))"} {
		for _, b := range outer {
			for _, c := range outer {
				for _, d := range outer {
					all++
					if asMeant(t, formula(t, fmt.Sprintf(d, fmt.Sprintf(c, fmt.Sprintf(b, a))))) {
						taken++
					}
				}
			}
		}
	}
	if taken < 3000 || taken > all-3000 {
		t.Error(taken, all)
	}
}

// stream is a row of numbers that look like chance and are the same each time.
type stream uint64

func (s *stream) next() uint64 {
	x := uint64(*s)
	x ^= x << 13
	x ^= x >> 7
	x ^= x << 17
	*s = stream(x)
	return x
}

func (s *stream) below(n int) int { return int(s.next() % uint64(n)) }

func (s *stream) chance(n int) bool { return s.below(n) == 0 }

func pick[T any](s *stream, l ...T) T { return l[s.below(len(l))] }

// maker makes formulas that have given variables and are accepted, but for a slip now and then (one in so many; 0: none).
type maker struct {
	*stream
	slips int
}

func (m maker) slip() bool { return m.slips > 0 && m.chance(m.slips) }

// some are variables of a list, in another order; mixed are all of them.
func (m maker) some(l []string) []string {
	var kept []string
	for _, x := range m.mixed(l) {
		if m.chance(2) {
			kept = append(kept, x)
		}
	}
	return kept
}

func (m maker) mixed(l []string) []string {
	l = slices.Clone(l)
	for i := range l {
		j := m.below(i + 1)
		l[i], l[j] = l[j], l[i]
	}
	if !slices.Contains(l, "w") && m.slip() {
		l = append(l, "w")
	}
	if len(l) > 0 && m.slip() {
		l = l[1:]
	}
	return l
}

// fresh is a variable that the list has not.
func (m maker) fresh(l []string) string {
	for {
		if x := pick(m.stream, "a", "b", "c", "d", "e", "f", "g", "h", "i", "x", "y", "z"); !slices.Contains(l, x) {
			return x
		}
	}
}

func (m maker) number() api.Term {
	return api.Term{Kind: api.Const, Value: api.Value{Kind: api.Int, N: int64(m.below(3))}}
}

func variable(x string) api.Term { return api.Term{Kind: api.Var, Name: x} }

// term has no variables but some of these.
func (m maker) term(l []string, depth int) api.Term {
	if depth > 0 && m.chance(3) {
		return sum(pick(m.stream, api.Add, api.Sub, api.Mul), m.term(l, depth-1), m.term(l, depth-1))
	}
	if m.slip() {
		return variable("w")
	}
	if len(l) == 0 || m.chance(3) {
		return m.number()
	}
	return variable(pick(m.stream, l...))
}

func (m maker) interval(bounded bool) api.Interval {
	lo := int64(m.below(4))
	if !bounded && m.chance(2) || m.slip() {
		return api.Interval{Lo: lo, Open: true}
	}
	return api.Interval{Lo: lo, Hi: lo + int64(m.below(4))*int64(m.below(2))}
}

func (m maker) atom(l []string) api.Formula {
	switch {
	case len(l) == 0 && m.chance(3):
		return of(pick(m.stream, api.True, api.False))
	case len(l) == 0 && m.chance(3):
		return m.compare(nil)
	case len(l) == 1 && m.chance(4):
		terms := []api.Term{variable(l[0]), m.term(nil, 1)}
		if m.chance(2) {
			slices.Reverse(terms)
		}
		return api.Formula{Kind: api.Equal, Terms: terms}
	}
	f := api.Formula{Kind: api.Pred, Name: pick(m.stream, "p", "q", "r", "r", "s", "s")}
	for _, x := range m.mixed(l) {
		f.Terms = append(f.Terms, variable(x))
	}
	for len(f.Terms) < api.MaxArgs && m.chance(4) {
		f.Terms = append(f.Terms, pick(m.stream, m.number(), append(f.Terms, m.number())[0]))
	}
	if m.slip() {
		f.Terms = append(f.Terms, m.term(l, 1))
	}
	return f
}

func (m maker) compare(l []string) api.Formula {
	return api.Formula{Kind: pick(m.stream, api.Equal, api.Less, api.AtMost), Terms: []api.Term{m.term(l, 2), m.term(l, 2)}}
}

func (m maker) formula(l []string, depth int) api.Formula {
	if m.slip() {
		l = m.mixed(l)
	}
	if m.slip() {
		return of(api.Not, m.formula(l, depth))
	}
	if depth == 0 || m.chance(8) {
		return m.atom(l)
	}
	depth--
	switch kind := api.Not + m.below(api.Join-api.Not+1); kind {
	case api.Not:
		if len(l) == 0 {
			return of(kind, m.formula(nil, depth))
		}
		return m.and(l, depth)
	case api.And:
		return m.and(l, depth)
	case api.Or:
		return of(kind, m.formula(l, depth), m.formula(l, depth))
	case api.Exists:
		x := m.fresh(l)
		return api.Formula{Kind: kind, Vars: m.mixed([]string{x}), Subs: []api.Formula{m.formula(append([]string{x}, l...), depth)}}
	case api.Prev, api.Once, api.Next, api.Soon:
		return api.Formula{Kind: kind, I: m.interval(kind == api.Next || kind == api.Soon), Subs: []api.Formula{m.formula(l, depth)}}
	case api.Since, api.Until:
		return api.Formula{Kind: kind, I: m.interval(kind == api.Until), Subs: []api.Formula{m.perhapsNot(m.formula(m.some(l), depth)), m.formula(l, depth)}}
	case api.Before, api.After:
		return api.Formula{Kind: kind, I: m.interval(kind == api.After), Regex: []api.Regex{m.regex(l, depth)}}
	case api.Agg:
		return m.agg(l, depth)
	case api.Let, api.LetPast:
		return m.let(kind, l, depth)
	}
	return m.join(l, depth)
}

func (m maker) perhapsNot(f api.Formula) api.Formula {
	if m.chance(2) {
		return of(api.Not, f)
	}
	return f
}

// and is of each case; of the last one, if there is a variable to set.
func (m maker) and(l []string, depth int) api.Formula {
	g := func() api.Formula { return m.formula(l, depth) }
	switch n := m.below(5); {
	case n == 0:
		return of(api.And, m.formula(m.some(l), depth), g())
	case n == 1:
		return of(api.And, g(), of(api.Not, m.formula(m.some(l), depth)))
	case n == 2:
		return of(api.And, g(), m.perhapsNot(m.compare(l)))
	case n == 3 && len(l) > 0:
		terms := []api.Term{variable(l[0]), m.term(l[1:], 2)}
		if m.chance(2) {
			slices.Reverse(terms)
		}
		return of(api.And, m.formula(l[1:], depth), api.Formula{Kind: api.Equal, Terms: terms})
	}
	return of(api.And, g(), m.formula(m.some(l), depth))
}

func (m maker) regex(l []string, depth int) api.Regex {
	kind := pick(m.stream, api.Any, api.Test, api.Alt, api.Seq, api.Star)
	switch {
	case kind == api.Any && (len(l) == 0 || m.slip()):
		return api.Regex{Kind: kind}
	case kind == api.Star && depth > 0 && (len(l) == 0 || m.slip()):
		return api.Regex{Kind: kind, Subs: []api.Regex{m.regex(l, depth-1)}}
	case kind == api.Alt && depth > 0:
		return api.Regex{Kind: kind, Subs: []api.Regex{m.regex(l, depth-1), m.regex(l, depth-1)}}
	case kind == api.Seq && depth > 0 && m.chance(2):
		return api.Regex{Kind: kind, Subs: []api.Regex{m.regex(m.some(l), depth-1), m.regex(l, depth-1)}}
	case kind == api.Seq && depth > 0:
		return api.Regex{Kind: kind, Subs: []api.Regex{m.regex(l, depth-1), m.regex(nil, depth-1)}}
	}
	return api.Regex{Kind: api.Test, Test: []api.Formula{m.formula(l, max(0, depth-1))}}
}

func (m maker) agg(l []string, depth int) api.Formula {
	if len(l) == 0 {
		return of(api.Join, m.formula(l, depth))
	}
	x := m.fresh(l[1:])
	within := append([]string{x}, l[1:]...)
	if m.chance(3) {
		within = append(within, m.fresh(within))
	}
	vars := append([]string{x}, m.mixed(l[1:])...)
	return api.Formula{Kind: api.Agg, Name: l[0], Op: 1 + m.below(6), Vars: vars, Subs: []api.Formula{m.formula(within, depth)}}
}

// let has a first part that looks back alone, if it must, and names itself within a Prev; but for slips.
func (m maker) let(kind int, l []string, depth int) api.Formula {
	vars := m.some([]string{"x", "y", "z"})
	g := m.formula(vars, depth)
	name := pick(m.stream, "r", "s")
	if kind == api.LetPast && !m.slip() {
		g = of(api.Or, m.atom(vars), api.Formula{Kind: api.Prev, I: m.interval(false), Subs: []api.Formula{g}})
	}
	return api.Formula{Kind: kind, Name: name, Vars: m.mixed(vars), Subs: []api.Formula{g, m.formula(l, depth)}}
}

func (m maker) join(l []string, depth int) api.Formula {
	f := of(api.Join, m.formula(l, depth))
	for range m.below(3) {
		f.Subs = append(f.Subs, m.formula(m.some(l), depth))
	}
	for range m.below(3) {
		f.Subs = append(f.Subs, of(api.Not, m.formula(m.some(l), depth)))
	}
	if m.slip() {
		f.Subs = append(f.Subs, m.formula(l, depth))
	}
	return f
}

// made is a formula that may be.
func (m maker) made() api.Formula {
	for {
		f := m.formula(m.some([]string{"x", "y", "z"}), 1+m.below(5))
		if ast.Check(f) == api.OK {
			return f
		}
	}
}

// TestMade: P10.1, P10.2, many formulas of all kinds, some that are accepted and some that are not quite.
func TestMade(t *testing.T) {
	s := stream(101)
	var taken, left [api.Join + 1]int
	var cases [5]int
	for range 20000 {
		f := maker{&s, pick(&s, 0, 40, 15)}.made()
		if asMeant(t, f) {
			taken[f.Kind]++
		} else {
			left[f.Kind]++
		}
		g, h := maker{&s, pick(&s, 0, 40)}.made(), maker{&s, 20}.made()
		cases[caseAsMeant(t, g, h)]++
		cases[caseAsMeant(t, g, of(api.Not, h))]++
		cases[caseAsMeant(t, g, maker{&s, 0}.compare([]string{"x", "y"}))]++
		cases[caseAsMeant(t, g, of(api.Not, maker{&s, 0}.compare([]string{"x", "y"})))]++
	}
	if slices.Min(taken[api.Pred:]) < 20 || slices.Min(left[api.Not:]) < 20 || slices.Min(cases[:]) < 300 {
		t.Error(taken, left, cases)
	}
}

// partOf is a part, by its place, and where it stands.
type partOf struct {
	f     api.Formula
	whole api.Formula
	place int
}

func partsOf(f api.Formula) []partOf {
	var l []partOf
	for i := 0; ; i++ {
		g, e := ast.Part(f, []int{i})
		if e != api.OK {
			return l
		}
		l = append(l, partOf{g, f, i})
	}
}

// mayBeLeft is whether P10.3 lets a part be not accepted.
func (p partOf) mayBeLeft() bool {
	switch p.whole.Kind {
	case api.And:
		return p.place == 1 && (p.f.Kind == api.Not || compares(p.f))
	case api.Join:
		return p.f.Kind == api.Not
	case api.Since, api.Until:
		return p.place == 0 && p.f.Kind == api.Not
	}
	return false
}

// walk goes through all parts of an accepted formula. What stands in a Let's first part may look farther ahead than the Let: its Pred may stand nowhere.
func walk(t *testing.T, f api.Formula, most int64, bound bool, count *[3]int) {
	for _, p := range partsOf(f) {
		n, e := static.Reach(p.f)
		free := bound && !(f.Kind == api.Let && p.place == 0)
		if e == api.OK && free && n > most {
			t.Fatalf("%s: reach %d, above %d", textOf(p.f), n, most)
		}
		if e == api.OK {
			count[0]++
			walk(t, p.f, most, free, count)
			continue
		}
		if e != api.ErrGuard || !p.mayBeLeft() {
			t.Fatalf("%s, of %s: %d", textOf(p.f), textOf(f), e)
		}
		count[1]++
		if p.f.Kind != api.Not {
			continue
		}
		k := p.f.Subs[0]
		if static.Check(k) != api.OK {
			if f.Kind != api.And || !compares(k) {
				t.Fatalf("%s, of %s", textOf(k), textOf(f))
			}
			count[2]++
			continue
		}
		walk(t, k, most, free, count)
	}
}

// TestParts: P10.3, the parts of an accepted formula are accepted, but for those that it names, and look no farther ahead.
func TestParts(t *testing.T) {
	s := stream(102)
	var count [3]int
	for range 20000 {
		f := maker{&s, pick(&s, 0, 60)}.made()
		if n, e := static.Reach(f); e == api.OK {
			walk(t, f, n, true, &count)
		}
	}
	if count[0] < 50000 || count[1] < 2000 || count[2] < 200 {
		t.Error(count)
	}
}

// renamed is a formula with other names for its variables and predicates, one for one.
func renamed(f api.Formula) api.Formula {
	if f.Name != "" && f.Kind == api.Agg {
		f.Name = otherVar(f.Name)
	} else if f.Name != "" {
		f.Name = map[string]string{"p": "s", "q": "r", "r": "x", "s": "z"}[f.Name]
	}
	f.Vars = slices.Clone(f.Vars)
	for i, x := range f.Vars {
		f.Vars[i] = otherVar(x)
	}
	f.Terms, f.Regex, f.Subs = slices.Clone(f.Terms), slices.Clone(f.Regex), slices.Clone(f.Subs)
	for i, t := range f.Terms {
		f.Terms[i] = renamedTerm(t)
	}
	for i, r := range f.Regex {
		f.Regex[i] = renamedRegex(r)
	}
	for i, g := range f.Subs {
		f.Subs[i] = renamed(g)
	}
	return f
}

// otherVar turns the order of the names round.
func otherVar(x string) string { return string('z' - rune(x[0]-'a')) }

func renamedTerm(t api.Term) api.Term {
	if t.Kind == api.Var {
		t.Name = otherVar(t.Name)
	}
	t.Subs = slices.Clone(t.Subs)
	for i, s := range t.Subs {
		t.Subs[i] = renamedTerm(s)
	}
	return t
}

func renamedRegex(r api.Regex) api.Regex {
	r.Test, r.Subs = slices.Clone(r.Test), slices.Clone(r.Subs)
	for i, g := range r.Test {
		r.Test[i] = renamed(g)
	}
	for i, s := range r.Subs {
		r.Subs[i] = renamedRegex(s)
	}
	return r
}

// TestNames: P10.1, P10.2, with other names for variables and predicates, one for one, the answers are the same.
func TestNames(t *testing.T) {
	s := stream(103)
	for range 3000 {
		f, g := maker{&s, pick(&s, 0, 20)}.made(), maker{&s, pick(&s, 0, 20)}.made()
		n, e := static.Reach(f)
		if m, got := static.Reach(renamed(f)); m != n || got != e {
			t.Fatalf("%s: %d, %d; %s: %d, %d", textOf(f), n, e, textOf(renamed(f)), m, got)
		}
		if static.Case(f, g) != static.Case(renamed(f), renamed(g)) {
			t.Fatalf("%s, %s", textOf(f), textOf(g))
		}
	}
}

// roomy is a list with something in the spare room behind it.
func roomy[T any](l []T, more T) []T { return append(slices.Grow(slices.Clip(l), 2), more)[:len(l)] }

func room[T any](l []T) T { return l[: len(l)+1 : len(l)+1][len(l)] }

func roomyFormula(f api.Formula) api.Formula {
	f.Vars = roomy(f.Vars, "spare")
	f.Terms = roomy(f.Terms, api.Term{Kind: 77})
	for i, g := range f.Subs {
		f.Subs[i] = roomyFormula(g)
	}
	f.Subs = roomy(f.Subs, api.Formula{Kind: 77})
	f.Regex = roomy(f.Regex, api.Regex{Kind: 77})
	return f
}

func keepsRoom(f api.Formula) bool {
	for _, g := range f.Subs {
		if !keepsRoom(g) {
			return false
		}
	}
	return room(f.Vars) == "spare" && room(f.Terms).Kind == 77 && room(f.Subs).Kind == 77 && room(f.Regex).Kind == 77
}

// TestMemory: R4, what is handed in stays as it is, with its spare room.
func TestMemory(t *testing.T) {
	s := stream(104)
	for range 3000 {
		f, g := roomyFormula(maker{&s, pick(&s, 0, 20)}.made()), roomyFormula(maker{&s, pick(&s, 0, 20)}.made())
		was, wasG := ast.Clone(f), ast.Clone(g)
		static.Check(f)
		static.Reach(f)
		static.Quiet(f)
		static.Case(f, g)
		static.Case(g, f)
		if !ast.Same(f, was) || !ast.Same(g, wasG) || !keepsRoom(f) || !keepsRoom(g) {
			t.Fatal(textOf(was), textOf(wasG))
		}
	}
}

// TestOneAnswer: R5, a call answers the same whatever was asked ahead of it.
func TestOneAnswer(t *testing.T) {
	s := stream(105)
	said := func(f, g api.Formula) string {
		n, e := static.Reach(f)
		return fmt.Sprint(n, e, static.Check(f), static.Case(f, g), static.Quiet(f))
	}
	for range 2000 {
		f, g := maker{&s, pick(&s, 0, 20)}.made(), maker{&s, pick(&s, 0, 20)}.made()
		first := said(f, g)
		said(g, f)
		said(api.Formula{}, f)
		said(formula(t, "(let r (x) (soon [0,4] (p x)) (let s (x) (soon [0,4] (p x)) (or (r x) (s x))))"), g)
		if again := said(ast.Clone(f), ast.Clone(g)); again != first {
			t.Fatal(textOf(f), textOf(g), first, again)
		}
	}
}

// nested is a formula within that many others of a kind.
func nested(f api.Formula, n int, in func(api.Formula) api.Formula) api.Formula {
	for range n {
		f = in(f)
	}
	return f
}

// TestGreat: R1, R6, formulas at the limits, and great ones beyond, are answered, and in time.
func TestGreat(t *testing.T) {
	yes, px := formula(t, "true"), formula(t, "(p x)")
	not := func(f api.Formula) api.Formula { return of(api.Not, f) }
	andNot := func(f api.Formula) api.Formula { return of(api.And, px, not(f)) }
	reaches(t, nested(px, 11, andNot), 0)
	refuses(t, nested(px, 12, andNot), api.ErrDeep)
	refuses(t, nested(formula(t, "(p x y)"), 11, andNot), api.ErrGuard)
	reaches(t, nested(yes, 23, not), 0)
	var parts []api.Formula
	for i := range 120 {
		parts = append(parts, formula(t, "(p"+strconv.Itoa(i)+" x)"))
	}
	reaches(t, of(api.Join, parts...), 0)
	parts = append(parts, formula(t, "(not (q x))"), formula(t, "(next [0,7] (q x))"))
	refuses(t, of(api.Join, parts...), api.ErrGuard)
	slices.Reverse(parts[120:])
	reaches(t, of(api.Join, parts...), 7)
	refuses(t, of(api.Join, slices.Repeat([]api.Formula{yes}, 1<<20)...), api.ErrMany)
	refuses(t, of(api.Join, make([]api.Formula, 1<<20)...), api.ErrKind)

	deep := nested(yes, 1<<16-2, not)
	refuses(t, deep, api.ErrDeep)
	if static.Case(deep, yes)+static.Case(yes, deep)+static.Case(deep, deep) != 0 {
		t.Error("a case of what is too deep")
	}
	if !static.Quiet(deep) || static.Quiet(nested(formula(t, "(p (+ x 1))"), 1<<16-3, not)) {
		t.Error("deep formulas")
	}
	term, regex := api.Term{Kind: api.Mul}, api.Regex{Test: []api.Formula{{Kind: api.Agg, Op: api.Med}}}
	for range 1<<16 - 4 {
		term, regex = sum(api.Var, term), api.Regex{Subs: []api.Regex{regex}}
	}
	if static.Quiet(api.Formula{Terms: []api.Term{term}}) || static.Quiet(api.Formula{Regex: []api.Regex{regex}}) {
		t.Error("deep terms and regexes")
	}
	wide := of(api.Join, make([]api.Formula, 1<<20)...)
	if !static.Quiet(wide) {
		t.Error("a wide formula")
	}
	if wide.Subs[1<<20-1].Terms = []api.Term{sum(api.Sub)}; static.Quiet(wide) {
		t.Error("the last part")
	}
}
