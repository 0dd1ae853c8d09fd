package rewrite_test

import (
	"math"
	"slices"
	"testing"

	"custos/api"
	"custos/static"
	"custos/trace"
	"custos/typing"
)

// stream is a row of numbers that look like chance and are the same each time.
type stream uint64

func (s *stream) next() uint64 {
	x := uint64(*s)
	x ^= x << 13
	x ^= x >> 7
	x ^= x << 17
	*s = stream(x)
	return x
}

func (s *stream) below(n int) int { return int(s.next() % uint64(n)) }

func (s *stream) chance(n int) bool { return s.below(n) == 0 }

func pick[T any](s *stream, l ...T) T { return l[s.below(len(l))] }

func (s *stream) mixed(l []string) []string {
	l = slices.Clone(l)
	for i := range l {
		j := s.below(i + 1)
		l[i], l[j] = l[j], l[i]
	}
	return l
}

func (s *stream) some(l []string) []string {
	var kept []string
	for _, x := range s.mixed(l) {
		if s.chance(2) {
			kept = append(kept, x)
		}
	}
	return kept
}

// signature is that of all formulas that are made. Nothing tells bi, bs, br anew.
func signature() []api.Decl {
	sig, _ := trace.ParseSignature("p int\nq\nr int int\nk int str\nbi int\nbs str\nbr rat")
	return sig
}

// kindOf is the kind of whatever has that name.
func kindOf(x string) int {
	switch x[0] {
	case 's', 't':
		return api.Str
	case 'u', 'v':
		return api.Rat
	}
	return api.Int
}

func num(n int64) api.Value { return api.Value{Kind: api.Int, N: n} }

func (s *stream) value(kind int) api.Value {
	switch kind {
	case api.Str:
		return api.Value{Kind: api.Str, S: pick(s, "a", "b")}
	case api.Rat:
		return pick(s, api.Value{Kind: api.Rat, N: 1, D: 2}, api.Value{Kind: api.Rat, N: 1, D: 1})
	}
	if s.chance(12) {
		return num(math.MaxInt64)
	}
	return num(int64(s.below(3)))
}

// log ends with a point that is far enough behind all others.
func (s *stream) log() []api.Point {
	var log []api.Point
	time := int64(s.below(2))
	for range 2 + s.below(4) {
		p := api.Point{Time: time}
		for range s.below(14) {
			d := signature()[s.below(7)]
			e := api.Event{Name: d.Name}
			for _, kind := range d.Kinds {
				e.Args = append(e.Args, s.value(kind))
			}
			p.Events = append(p.Events, e)
		}
		log = append(log, p)
		time += int64(s.below(3))
	}
	return append(log, api.Point{Time: time + int64(s.below(30))})
}

// known is a predicate that may be asked for. Of one that is told within the formula, vars are its variables.
type known struct {
	name   string
	kinds  []int
	told   bool
	vars   []string
	around *known
}

func knownAll() *known {
	var in *known
	for _, d := range signature() {
		in = &known{name: d.Name, kinds: d.Kinds, around: in}
	}
	return in
}

// seen are those of which no other one with that name is nearer.
func (in *known) seen() []*known {
	var l []*known
	for ; in != nil; in = in.around {
		if !slices.ContainsFunc(l, func(k *known) bool { return k.name == in.name }) {
			l = append(l, in)
		}
	}
	return l
}

func variable(x string) api.Term { return api.Term{Kind: api.Var, Name: x} }

func of(kind int, l ...api.Formula) api.Formula { return api.Formula{Kind: kind, Subs: l} }

// fresh is a variable that the list has not.
func (s *stream) fresh(l []string) string {
	for {
		if x := pick(s, "x", "y", "z", "w", "x", "y", "s", "t", "u", "v"); !slices.Contains(l, x) {
			return x
		}
	}
}

func (s *stream) term(kind int, l []string, depth int) api.Term {
	if kind != api.Str && depth > 0 && s.chance(3) {
		return api.Term{Kind: pick(s, api.Add, api.Sub, api.Mul), Subs: []api.Term{s.term(kind, l, depth-1), s.term(kind, l, depth-1)}}
	}
	var fit []string
	for _, x := range l {
		if kindOf(x) == kind {
			fit = append(fit, x)
		}
	}
	if len(fit) == 0 || s.chance(4) {
		return api.Term{Kind: api.Const, Value: s.value(kind)}
	}
	return variable(pick(s, fit...))
}

func (s *stream) comparison(l []string) api.Formula {
	kind := api.Int
	if len(l) > 0 {
		kind = kindOf(pick(s, l...))
	}
	return api.Formula{Kind: pick(s, api.Equal, api.Less, api.AtMost), Terms: []api.Term{s.term(kind, l, 2), s.term(kind, l, 2)}}
}

// pred asks a predicate for these variables; false, if it has not as many arguments of their kinds.
func (s *stream) pred(k *known, l []string) (api.Formula, bool) {
	f := api.Formula{Kind: api.Pred, Name: k.name, Terms: make([]api.Term, len(k.kinds))}
	for _, x := range s.mixed(l) {
		n := slices.IndexFunc(f.Terms, func(t api.Term) bool { return t.Kind == api.NoTerm })
		for n >= 0 && n < len(k.kinds) && (f.Terms[n].Kind != api.NoTerm || k.kinds[n] != kindOf(x)) {
			n++
		}
		if n < 0 || n == len(k.kinds) {
			return f, false
		}
		f.Terms[n] = variable(x)
	}
	for n, kind := range k.kinds {
		if f.Terms[n].Kind == api.NoTerm {
			f.Terms[n] = s.term(kind, l, 0)
		}
	}
	return f, true
}

// atom has just these variables.
func (s *stream) atom(l []string, in *known) api.Formula {
	switch {
	case len(l) == 0 && s.chance(3):
		return of(pick(s, api.True, api.False))
	case len(l) == 0 && s.chance(5):
		return s.comparison(nil)
	case len(l) == 1 && s.chance(6):
		terms := []api.Term{variable(l[0]), s.term(kindOf(l[0]), nil, 1)}
		if s.chance(2) {
			slices.Reverse(terms)
		}
		return api.Formula{Kind: api.Equal, Terms: terms}
	}
	for _, k := range in.seen() {
		if slices.Equal(slices.Sorted(slices.Values(k.vars)), slices.Sorted(slices.Values(l))) && k.told && s.chance(2) {
			f := api.Formula{Kind: api.Pred, Name: k.name}
			for _, x := range k.vars {
				f.Terms = append(f.Terms, variable(x))
			}
			return f
		}
	}
	for range 6 {
		if f, ok := s.pred(pick(s, in.seen()...), l); ok {
			return f
		}
	}
	f := of(api.True)
	for i, x := range s.mixed(l) {
		g := api.Formula{Kind: api.Pred, Name: []string{"", "bi", "br", "bs"}[kindOf(x)], Terms: []api.Term{variable(x)}}
		if i > 0 {
			g = of(api.And, f, g)
		}
		f = g
	}
	return f
}

func (s *stream) interval(bounded bool) api.Interval {
	lo := int64(s.below(4) / 2)
	if !bounded && s.chance(2) {
		return api.Interval{Lo: lo, Open: true}
	}
	return api.Interval{Lo: lo, Hi: lo + int64(s.below(3))}
}

// formula has just these variables, and is accepted, but where a LetPast is not.
func (s *stream) formula(l []string, depth int, in *known) api.Formula {
	if depth == 0 || s.chance(8) {
		return s.atom(l, in)
	}
	depth--
	g := func(l []string) api.Formula { return s.formula(l, depth, in) }
	switch kind := api.Not + s.below(api.Join-api.Not+8); kind {
	case api.Not:
		if len(l) == 0 {
			return of(kind, g(nil))
		}
		return s.and(l, depth, in)
	case api.Or:
		return of(kind, g(l), g(l))
	case api.Exists:
		x := s.fresh(l)
		return api.Formula{Kind: kind, Vars: []string{x}, Subs: []api.Formula{g(append([]string{x}, l...))}}
	case api.Prev, api.Once, api.Next, api.Soon:
		return api.Formula{Kind: kind, I: s.interval(kind == api.Next || kind == api.Soon), Subs: []api.Formula{g(l)}}
	case api.Since, api.Until:
		return api.Formula{Kind: kind, I: s.interval(kind == api.Until), Subs: []api.Formula{s.perhapsNot(g(s.some(l))), g(l)}}
	case api.Before, api.After:
		return api.Formula{Kind: kind, I: s.interval(kind == api.After), Regex: []api.Regex{s.regex(l, depth, in)}}
	case api.Agg:
		return s.agg(l, depth, in)
	case api.Let, api.LetPast:
		return s.let(kind, l, depth, in)
	case api.Join:
		return s.join(l, depth, in)
	case api.And, api.Join + 1, api.Join + 2:
		return s.and(l, depth, in)
	case api.Join + 3:
		return s.let(api.Let, l, depth, in)
	}
	return s.needless(l, depth, in)
}

func (s *stream) perhapsNot(f api.Formula) api.Formula {
	if s.chance(2) {
		return of(api.Not, f)
	}
	return f
}

// needless is what a rule makes simpler, or nearly so.
func (s *stream) needless(l []string, depth int, in *known) api.Formula {
	f := s.formula(l, depth, in)
	both := []api.Formula{f, of(api.True)}
	switch n := s.below(7); {
	case len(l) == 0 && s.chance(2):
		return of(api.Not, of(api.Not, f))
	case n == 1 && len(l) == 0:
		both[1] = of(api.False)
		fallthrough
	case n <= 2:
		if s.chance(2) {
			slices.Reverse(both)
		}
		return of(pick(s, api.And, api.And, api.Or), both...)
	case n == 3:
		return of(pick(s, api.And, api.Or), f, f)
	case n == 4:
		x := s.fresh(l)
		y := s.fresh(append([]string{x}, l...))
		f = s.formula(append([]string{x, y}, l...), depth, in)
		f = api.Formula{Kind: api.Exists, Vars: []string{x}, Subs: []api.Formula{f}}
		return api.Formula{Kind: api.Exists, Vars: []string{y}, Subs: []api.Formula{f}}
	case n == 5:
		return of(api.Join, f)
	}
	return of(api.And, of(api.And, f, s.formula(s.some(l), depth, in)), s.perhapsNot(s.formula(s.some(l), depth, in)))
}

// and is of each case.
func (s *stream) and(l []string, depth int, in *known) api.Formula {
	g := func(l []string) api.Formula { return s.formula(l, depth, in) }
	switch n := s.below(6); {
	case n == 0:
		return of(api.And, g(s.some(l)), g(l))
	case n <= 2:
		return of(api.And, g(l), of(api.Not, g(s.some(l))))
	case n == 3:
		return of(api.And, g(l), s.perhapsNot(s.comparison(l)))
	case n == 4 && len(l) > 0:
		l = s.mixed(l)
		terms := []api.Term{variable(l[0]), s.term(kindOf(l[0]), l[1:], 2)}
		if s.chance(2) {
			slices.Reverse(terms)
		}
		return of(api.And, g(l[1:]), api.Formula{Kind: api.Equal, Terms: terms})
	}
	return of(api.And, g(l), g(s.some(l)))
}

func (s *stream) regex(l []string, depth int, in *known) api.Regex {
	kind := pick(s, api.Any, api.Test, api.Alt, api.Seq, api.Star)
	sub := func(l []string) api.Regex { return s.regex(l, depth-1, in) }
	switch {
	case kind == api.Any && len(l) == 0:
		return api.Regex{Kind: kind}
	case kind == api.Star && depth > 0 && len(l) == 0:
		return api.Regex{Kind: kind, Subs: []api.Regex{sub(nil)}}
	case kind == api.Alt && depth > 0:
		return api.Regex{Kind: kind, Subs: []api.Regex{sub(l), sub(l)}}
	case kind == api.Seq && depth > 0 && s.chance(2):
		return api.Regex{Kind: kind, Subs: []api.Regex{sub(s.some(l)), sub(l)}}
	case kind == api.Seq && depth > 0:
		return api.Regex{Kind: kind, Subs: []api.Regex{sub(l), sub(nil)}}
	}
	return api.Regex{Kind: api.Test, Test: []api.Formula{s.formula(l, max(0, depth-1), in)}}
}

func (s *stream) agg(l []string, depth int, in *known) api.Formula {
	if len(l) == 0 {
		return of(api.Join, s.formula(l, depth, in))
	}
	y, groups := l[0], l[1:]
	x := s.fresh(groups)
	op := pick(s, api.Min, api.Max, api.Sum)
	for op != api.Cnt && kindOf(x) != kindOf(y) || op == api.Sum && kindOf(x) == api.Str {
		x, op = s.fresh(groups), pick(s, api.Min, api.Max, api.Sum)
		if kindOf(y) == api.Int && s.chance(2) {
			op = api.Cnt
		}
	}
	if kindOf(y) == api.Rat {
		op = pick(s, op, api.Avg, api.Med)
	}
	within := append([]string{x}, groups...)
	if s.chance(3) {
		within = append(within, s.fresh(within))
	}
	return api.Formula{Kind: api.Agg, Name: y, Op: op, Vars: append([]string{x}, s.mixed(groups)...), Subs: []api.Formula{s.formula(within, depth, in)}}
}

func (s *stream) let(kind int, l []string, depth int, in *known) api.Formula {
	vars := s.some(pick(s, l, []string{"x", "y", "s"}))
	if s.chance(2) {
		vars = s.mixed(l)
	}
	k := &known{name: pick(s, "l", "l", "n", "p", "r", "q"), told: true, vars: vars, around: in}
	for _, x := range vars {
		k.kinds = append(k.kinds, kindOf(x))
	}
	if kind == api.Let {
		return api.Formula{Kind: kind, Name: k.name, Vars: vars, Subs: []api.Formula{s.formula(vars, depth, in), s.formula(l, depth, k)}}
	}
	g := of(api.Or, s.formula(vars, depth/2, in.without(k.name)), api.Formula{Kind: api.Prev, I: s.interval(false), Subs: []api.Formula{s.formula(vars, depth/2, k)}})
	return api.Formula{Kind: kind, Name: k.name, Vars: vars, Subs: []api.Formula{g, s.formula(l, depth, k)}}
}

// without has no predicate of that name.
func (in *known) without(name string) *known {
	if in == nil || in.name == name {
		if in == nil {
			return nil
		}
		return in.around.without(name)
	}
	k := *in
	k.around = in.around.without(name)
	return &k
}

func (s *stream) join(l []string, depth int, in *known) api.Formula {
	f := of(api.Join, s.formula(l, depth, in))
	for f.Subs[0].Kind == api.Not {
		f.Subs[0] = f.Subs[0].Subs[0]
	}
	for range s.below(3) {
		if g := s.formula(s.some(l), depth, in); g.Kind != api.Not {
			f.Subs = append(f.Subs, g)
		}
	}
	for range s.below(3) {
		f.Subs = append(f.Subs, of(api.Not, s.formula(s.some(l), depth, in)))
	}
	return f
}

// made is an accepted formula that has kinds.
func (s *stream) made(depth int) api.Formula {
	for {
		f := s.formula(s.some(pick(s, nil, []string{"x", "y"}, []string{"x", "y", "s", "u"})), 1+s.below(depth), knownAll())
		if _, e := typing.Infer(signature(), f); e == api.OK && static.Check(f) == api.OK {
			return f
		}
	}
}

// meansTheSame is P16.5, of some logs; it tells how many cells were true or had rows, were without rows, and were over.
func meansTheSame(t *testing.T, s *stream, f api.Formula, logs int, others ...api.Formula) [3]int {
	t.Helper()
	var count [3]int
	want, e := typing.Infer(signature(), f)
	if e != api.OK {
		t.Fatal(textOf(f), e)
	}
	for _, g := range others {
		got, e := typing.Infer(signature(), g)
		if e != api.OK || !slices.EqualFunc(got.Free, want.Free, func(a, b api.Decl) bool { return a.Name == b.Name && slices.Equal(a.Kinds, b.Kinds) }) {
			t.Fatalf("%s: %v; %s: %v, %d", textOf(f), want, textOf(g), got, e)
		}
	}
	for range logs {
		log := s.log()
		c := meaning(signature(), f, log)
		for _, g := range others {
			sameCells(t, f, g, log, c, meaning(signature(), g, log))
		}
		for _, x := range c {
			switch {
			case x.over:
				count[2]++
			case len(x.table.Rows) > 0:
				count[0]++
			default:
				count[1]++
			}
		}
	}
	return count
}

func sameCells(t *testing.T, f, g api.Formula, log []api.Point, a, b column) {
	t.Helper()
	if len(a) != len(b) {
		t.Fatalf("%s; %s: %v: %d and %d are due", textOf(f), textOf(g), log, len(a), len(b))
	}
	for i := range a {
		if a[i].over != b[i].over || !a[i].over && !sameTable(a[i].table, b[i].table) {
			t.Fatalf("%s; %s: %v, at %d: %v and %v", textOf(f), textOf(g), log, i, a[i], b[i])
		}
	}
}

func sameTable(a, b api.Table) bool {
	return slices.Equal(a.Vars, b.Vars) && slices.EqualFunc(a.Rows, b.Rows, slices.Equal)
}

// TestMade: P16.1 to P16.6, of many formulas.
func TestMade(t *testing.T) {
	t.Parallel()
	s := stream(161)
	var cases [5]int
	var cells [3]int
	var kinds [api.Join + 1]int
	for range 2500 {
		f := s.made(5)
		for i, n := range asPromised(t, f) {
			cases[i] += min(n, 1)
		}
		kinds[f.Kind]++
		for i, n := range meansTheSame(t, &s, f, 3, tells(f)...) {
			cells[i] += n
		}
	}
	if slices.Min(cases[:]) < 200 || slices.Min(cells[:]) < 250 || slices.Min(kinds[1:]) < 1 || slices.Min(kinds[api.Not:]) < 40 {
		t.Error(cases, cells, kinds)
	}
}
