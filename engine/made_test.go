package engine_test

import (
	"math"
	"slices"
	"testing"

	"custos/api"
	"custos/static"
	"custos/table"
	"custos/typing"
)

// stream is a row of numbers that look like chance and are the same each time.
type stream uint64

func (s *stream) next() uint64 {
	x := uint64(*s)
	x ^= x << 13
	x ^= x >> 7
	x ^= x << 17
	*s = stream(x)
	return x
}

func (s *stream) below(n int) int { return int(s.next() % uint64(n)) }

func (s *stream) chance(n int) bool { return s.below(n) == 0 }

func pick[T any](s *stream, l ...T) T { return l[s.below(len(l))] }

func (s *stream) mixed(l []string) []string {
	l = slices.Clone(l)
	for i := range l {
		j := s.below(i + 1)
		l[i], l[j] = l[j], l[i]
	}
	return l
}

func (s *stream) some(l []string) []string {
	var kept []string
	for _, x := range s.mixed(l) {
		if s.chance(2) {
			kept = append(kept, x)
		}
	}
	return kept
}

// signature is one of some predicates, whose names and kinds are not those of another one, and of bi, bs and br, which
// nothing tells anew.
func (s *stream) signature() []api.Decl {
	sig := []api.Decl{{Name: "bi", Kinds: []int{api.Int}}, {Name: "bs", Kinds: []int{api.Str}}, {Name: "br", Kinds: []int{api.Rat}}}
	for _, name := range []string{"p", "q", "r", "k"} {
		d := api.Decl{Name: name}
		for range s.below(4) {
			d.Kinds = append(d.Kinds, pick(s, api.Int, api.Int, api.Str, api.Rat))
		}
		if n := s.below(len(sig) + 2); n <= len(sig) {
			sig = slices.Insert(sig, n, d)
		}
	}
	return sig
}

// kindOf is the kind of whatever has that name.
func kindOf(x string) int {
	switch x[0] {
	case 's', 't':
		return api.Str
	case 'u', 'v':
		return api.Rat
	}
	return api.Int
}

func num(n int64) api.Value { return api.Value{Kind: api.Int, N: n} }

func (s *stream) value(kind int) api.Value {
	switch kind {
	case api.Str:
		return api.Value{Kind: api.Str, S: pick(s, "a", "b")}
	case api.Rat:
		return pick(s, api.Value{Kind: api.Rat, N: 1, D: 2}, api.Value{Kind: api.Rat, N: 1, D: 1})
	}
	if s.chance(6) {
		return num(math.MaxInt64)
	}
	return num(int64(s.below(3)))
}

// log has points at one time, near each other and far apart.
func (s *stream) log(sig []api.Decl) []api.Point {
	var log []api.Point
	time := pick(s, 0, 0, int64(s.below(9)), api.MaxTime-20)
	for range 1 + s.below(7) {
		log = append(log, s.point(sig, time))
		time = min(time+pick(s, 0, 0, 1, 1, 2, int64(s.below(9))), api.MaxTime)
	}
	return append(log, s.point(sig, min(time+int64(s.below(20)), api.MaxTime)))
}

// point has events of some predicates, some of them twice.
func (s *stream) point(sig []api.Decl, time int64) api.Point {
	p := api.Point{Time: time}
	for range s.below(14) {
		d := sig[s.below(len(sig))]
		e := api.Event{Name: d.Name}
		for _, kind := range d.Kinds {
			e.Args = append(e.Args, s.value(kind))
		}
		p.Events = append(p.Events, e)
	}
	return p
}

// known is a predicate that may be asked for. Of one that is told within the formula, vars are its variables.
type known struct {
	name   string
	kinds  []int
	told   bool
	vars   []string
	around *known
}

func knownAll(sig []api.Decl) *known {
	var in *known
	for _, d := range sig {
		in = &known{name: d.Name, kinds: d.Kinds, around: in}
	}
	return in
}

// seen are those of which no other one with that name is nearer.
func (in *known) seen() []*known {
	var l []*known
	for ; in != nil; in = in.around {
		if !slices.ContainsFunc(l, func(k *known) bool { return k.name == in.name }) {
			l = append(l, in)
		}
	}
	return l
}

func variable(x string) api.Term { return api.Term{Kind: api.Var, Name: x} }

func of(kind int, l ...api.Formula) api.Formula { return api.Formula{Kind: kind, Subs: l} }

// fresh is a variable that the list has not.
func (s *stream) fresh(l []string) string {
	for {
		if x := pick(s, "x", "y", "z", "w", "x", "y", "s", "t", "u", "v"); !slices.Contains(l, x) {
			return x
		}
	}
}

func (s *stream) term(kind int, l []string, depth int) api.Term {
	if kind != api.Str && depth > 0 && s.chance(3) {
		return api.Term{Kind: pick(s, api.Add, api.Sub, api.Mul), Subs: []api.Term{s.term(kind, l, depth-1), s.term(kind, l, depth-1)}}
	}
	var fit []string
	for _, x := range l {
		if kindOf(x) == kind {
			fit = append(fit, x)
		}
	}
	if len(fit) == 0 || s.chance(4) {
		return api.Term{Kind: api.Const, Value: s.value(kind)}
	}
	return variable(pick(s, fit...))
}

func (s *stream) comparison(l []string) api.Formula {
	kind := api.Int
	if len(l) > 0 {
		kind = kindOf(pick(s, l...))
	}
	return api.Formula{Kind: pick(s, api.Equal, api.Less, api.AtMost), Terms: []api.Term{s.term(kind, l, 2), s.term(kind, l, 2)}}
}

// pred asks a predicate for these variables; false, if it has not as many arguments of their kinds.
func (s *stream) pred(k *known, l []string) (api.Formula, bool) {
	f := api.Formula{Kind: api.Pred, Name: k.name, Terms: make([]api.Term, len(k.kinds))}
	for _, x := range s.mixed(l) {
		n := slices.IndexFunc(f.Terms, func(t api.Term) bool { return t.Kind == api.NoTerm })
		for n >= 0 && n < len(k.kinds) && (f.Terms[n].Kind != api.NoTerm || k.kinds[n] != kindOf(x)) {
			n++
		}
		if n < 0 || n == len(k.kinds) {
			return f, false
		}
		f.Terms[n] = variable(x)
	}
	for n, kind := range k.kinds {
		if f.Terms[n].Kind == api.NoTerm {
			f.Terms[n] = s.term(kind, l, 0)
		}
	}
	return f, true
}

// atom has just these variables.
func (s *stream) atom(l []string, in *known) api.Formula {
	switch {
	case len(l) == 0 && s.chance(3):
		return of(pick(s, api.True, api.False))
	case len(l) == 0 && s.chance(5):
		return s.comparison(nil)
	case len(l) == 1 && s.chance(6):
		terms := []api.Term{variable(l[0]), s.term(kindOf(l[0]), nil, 1)}
		if s.chance(2) {
			slices.Reverse(terms)
		}
		return api.Formula{Kind: api.Equal, Terms: terms}
	}
	for _, k := range in.seen() {
		if slices.Equal(slices.Sorted(slices.Values(k.vars)), slices.Sorted(slices.Values(l))) && k.told && s.chance(2) {
			f := api.Formula{Kind: api.Pred, Name: k.name}
			for _, x := range k.vars {
				f.Terms = append(f.Terms, variable(x))
			}
			return f
		}
	}
	for range 6 {
		if f, ok := s.pred(pick(s, in.seen()...), l); ok {
			return f
		}
	}
	f := of(api.True)
	for i, x := range s.mixed(l) {
		g := api.Formula{Kind: api.Pred, Name: []string{"", "bi", "br", "bs"}[kindOf(x)], Terms: []api.Term{variable(x)}}
		if i > 0 {
			g = of(api.And, f, g)
		}
		f = g
	}
	return f
}

func (s *stream) interval(bounded bool) api.Interval {
	lo := int64(s.below(4) / 2)
	if !bounded && s.chance(2) {
		return api.Interval{Lo: lo, Open: true}
	}
	return api.Interval{Lo: lo, Hi: lo + int64(s.below(3))}
}

// formula has just these variables, and is accepted, but where a LetPast is not.
func (s *stream) formula(l []string, depth int, in *known) api.Formula {
	if depth == 0 || s.chance(8) {
		return s.atom(l, in)
	}
	depth--
	g := func(l []string) api.Formula { return s.formula(l, depth, in) }
	switch kind := api.Not + s.below(api.Join-api.Not+1); kind {
	case api.Not:
		if len(l) == 0 {
			return of(kind, g(nil))
		}
		return s.and(l, depth, in)
	case api.Or:
		return of(kind, g(l), g(l))
	case api.Exists:
		x := s.fresh(l)
		return api.Formula{Kind: kind, Vars: []string{x}, Subs: []api.Formula{g(append([]string{x}, l...))}}
	case api.Prev, api.Once, api.Next, api.Soon:
		return api.Formula{Kind: kind, I: s.interval(kind == api.Next || kind == api.Soon), Subs: []api.Formula{g(l)}}
	case api.Since, api.Until:
		return api.Formula{Kind: kind, I: s.interval(kind == api.Until), Subs: []api.Formula{s.perhapsNot(g(s.some(l))), g(l)}}
	case api.Before, api.After:
		return api.Formula{Kind: kind, I: s.interval(kind == api.After), Regex: []api.Regex{s.regex(l, depth, in)}}
	case api.Agg:
		return s.agg(l, depth, in)
	case api.Let, api.LetPast:
		return s.let(kind, l, depth, in)
	case api.Join:
		return s.join(l, depth, in)
	}
	return s.and(l, depth, in)
}

func (s *stream) perhapsNot(f api.Formula) api.Formula {
	if s.chance(2) {
		return of(api.Not, f)
	}
	return f
}

// and is of each case.
func (s *stream) and(l []string, depth int, in *known) api.Formula {
	g := func(l []string) api.Formula { return s.formula(l, depth, in) }
	switch n := s.below(6); {
	case n == 0:
		return of(api.And, g(s.some(l)), g(l))
	case n <= 2:
		return of(api.And, g(l), of(api.Not, g(s.some(l))))
	case n == 3:
		return of(api.And, g(l), s.perhapsNot(s.comparison(l)))
	case n == 4 && len(l) > 0:
		l = s.mixed(l)
		terms := []api.Term{variable(l[0]), s.term(kindOf(l[0]), l[1:], 2)}
		if s.chance(2) {
			slices.Reverse(terms)
		}
		return of(api.And, g(l[1:]), api.Formula{Kind: api.Equal, Terms: terms})
	}
	return of(api.And, g(l), g(s.some(l)))
}

func (s *stream) regex(l []string, depth int, in *known) api.Regex {
	kind := pick(s, api.Any, api.Test, api.Alt, api.Seq, api.Star)
	sub := func(l []string) api.Regex { return s.regex(l, depth-1, in) }
	switch {
	case kind == api.Any && len(l) == 0:
		return api.Regex{Kind: kind}
	case kind == api.Star && depth > 0 && len(l) == 0:
		return api.Regex{Kind: kind, Subs: []api.Regex{sub(nil)}}
	case kind == api.Alt && depth > 0:
		return api.Regex{Kind: kind, Subs: []api.Regex{sub(l), sub(l)}}
	case kind == api.Seq && depth > 0 && s.chance(2):
		return api.Regex{Kind: kind, Subs: []api.Regex{sub(s.some(l)), sub(l)}}
	case kind == api.Seq && depth > 0:
		return api.Regex{Kind: kind, Subs: []api.Regex{sub(l), sub(nil)}}
	}
	return api.Regex{Kind: api.Test, Test: []api.Formula{s.formula(l, max(0, depth-1), in)}}
}

func (s *stream) agg(l []string, depth int, in *known) api.Formula {
	if len(l) == 0 {
		return of(api.Join, s.formula(l, depth, in))
	}
	y, groups := l[0], l[1:]
	x := s.fresh(groups)
	op := pick(s, api.Min, api.Max, api.Sum)
	for op != api.Cnt && kindOf(x) != kindOf(y) || op == api.Sum && kindOf(x) == api.Str {
		x, op = s.fresh(groups), pick(s, api.Min, api.Max, api.Sum)
		if kindOf(y) == api.Int && s.chance(2) {
			op = api.Cnt
		}
	}
	if kindOf(y) == api.Rat {
		op = pick(s, op, api.Avg, api.Med)
	}
	within := append([]string{x}, groups...)
	if s.chance(3) {
		within = append(within, s.fresh(within))
	}
	return api.Formula{Kind: api.Agg, Name: y, Op: op, Vars: append([]string{x}, s.mixed(groups)...), Subs: []api.Formula{s.formula(within, depth, in)}}
}

func (s *stream) let(kind int, l []string, depth int, in *known) api.Formula {
	vars := s.some(pick(s, l, []string{"x", "y", "s"}))
	if s.chance(2) {
		vars = s.mixed(l)
	}
	k := &known{name: pick(s, "l", "l", "n", "p", "r", "q"), told: true, vars: vars, around: in}
	for _, x := range vars {
		k.kinds = append(k.kinds, kindOf(x))
	}
	if kind == api.Let {
		return api.Formula{Kind: kind, Name: k.name, Vars: vars, Subs: []api.Formula{s.formula(vars, depth, in), s.formula(l, depth, k)}}
	}
	g := of(api.Or, s.formula(vars, depth/2, in.without(k.name)), api.Formula{Kind: api.Prev, I: s.interval(false), Subs: []api.Formula{s.formula(vars, depth/2, k)}})
	return api.Formula{Kind: kind, Name: k.name, Vars: vars, Subs: []api.Formula{g, s.formula(l, depth, k)}}
}

// without has no predicate of that name.
func (in *known) without(name string) *known {
	if in == nil || in.name == name {
		if in == nil {
			return nil
		}
		return in.around.without(name)
	}
	k := *in
	k.around = in.around.without(name)
	return &k
}

func (s *stream) join(l []string, depth int, in *known) api.Formula {
	f := of(api.Join, s.formula(l, depth, in))
	for f.Subs[0].Kind == api.Not {
		f.Subs[0] = f.Subs[0].Subs[0]
	}
	for range s.below(3) {
		if g := s.formula(s.some(l), depth, in); g.Kind != api.Not {
			f.Subs = append(f.Subs, g)
		}
	}
	for range s.below(3) {
		f.Subs = append(f.Subs, of(api.Not, s.formula(s.some(l), depth, in)))
	}
	return f
}

// made is an accepted formula that has kinds, of just these variables.
func (s *stream) made(sig []api.Decl, l []string, depth int) api.Formula {
	for {
		f := s.formula(l, 1+s.below(depth), knownAll(sig))
		if _, e := typing.Infer(sig, f); e == api.OK && static.Check(f) == api.OK {
			return f
		}
	}
}

func (s *stream) vars() []string {
	return s.some(pick(s, nil, []string{"x", "y"}, []string{"x", "y", "s", "u"}))
}

func sameCells(a, b []cell) bool {
	return slices.EqualFunc(a, b, func(a, b cell) bool { return a.over == b.over && table.Same(a.table, b.table) })
}

// tally is how often something was told.
type tally struct {
	kinds                    [api.Join + 1]int
	rows, none, over, rounds int
}

func (c *tally) count(f api.Formula, l []cell) {
	c.kinds[f.Kind]++
	for _, x := range l {
		switch {
		case x.over:
			c.over++
		case len(x.table.Rows) > 0:
			c.rows++
		default:
			c.none++
		}
	}
}

// TestMade: P17.2, P0.1, P0.2, of many signatures, formulas and logs, against the words of DOC.md.
func TestMade(t *testing.T) {
	t.Parallel()
	s := stream(171)
	var c tally
	for range 5000 {
		sig := s.signature()
		f := s.made(sig, s.vars(), 5)
		for range 3 {
			log := s.log(sig)
			got := watch(t, sig, f, log)
			want, ok := meaning(sig, f, log)
			if !ok {
				c.rounds++
				continue
			}
			if !sameCells(got, want) {
				t.Fatalf("%s over %v: %s, want %s", textOf(f), log, textOfCells(got), textOfCells(want))
			}
			c.count(f, got)
		}
	}
	if c.rows < 5000 || c.none < 5000 || c.over < 300 || slices.Min(c.kinds[1:]) < 5 || slices.Min(c.kinds[api.Not:]) < 100 {
		t.Error(c)
	}
	t.Log(c)
}
