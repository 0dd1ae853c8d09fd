package match_test

import (
	"slices"
	"strings"
	"sync"
	"testing"

	"custos/api"
	"custos/ast"
	"custos/match"
	"custos/table"
	"custos/value"
)

func sameFormula(a, b api.Formula) bool { return ast.Same(a, b) }

// stream is numbers that look as if by chance, the same at each run.
type stream uint64

func (s *stream) next() uint64 {
	x := uint64(*s)
	x ^= x << 13
	x ^= x >> 7
	x ^= x << 17
	*s = stream(x)
	return x
}

func (s *stream) below(n int) int { return int(s.next() % uint64(n)) }

func (s *stream) chance(n int) bool { return s.below(n) == 0 }

func pick[T any](s *stream, l ...T) T { return l[s.below(len(l))] }

// within is DOC.md's words on intervals.
func within(i api.Interval, n int64) bool { return n >= i.Lo && (i.Open || n <= i.Hi) }

func isClosedTrue(t api.Table) bool { return len(t.Rows) > 0 }

// shape is a regex as the model goes through it: its tests are numbered, and its variables are known.
type shape struct {
	kind   int
	number int
	vars   []string
	parts  []*shape
}

func shapeOf(r api.Regex, tests *int) *shape {
	s := &shape{kind: r.Kind}
	for _, f := range r.Test {
		s.number = *tests
		*tests++
		s.vars = ast.Free(f)
	}
	for _, sub := range r.Subs {
		p := shapeOf(sub, tests)
		s.parts = append(s.parts, p)
		s.vars = append(s.vars, p.vars...)
	}
	s.vars = slices.Compact(slices.Sorted(slices.Values(s.vars)))
	return s
}

// place is what a table was made of.
type place struct {
	s    *shape
	i, j int
}

// model is M(r, i, j) by the words of DOC.md, over all points that have come; what was made once is kept.
type model struct {
	log   []point
	known map[place]api.Table
}

func union(a, b api.Table) api.Table {
	t, e := table.Union(a, b)
	if e != api.OK {
		panic("union")
	}
	return t
}

func join(a, b api.Table) api.Table {
	t, e := table.Join(a, b)
	if e != api.OK {
		panic("join")
	}
	return t
}

func (m *model) of(s *shape, i, j int) api.Table {
	if t, ok := m.known[place{s, i, j}]; ok {
		return t
	}
	t := m.make(s, i, j)
	m.known[place{s, i, j}] = t
	return t
}

func (m *model) make(s *shape, i, j int) api.Table {
	t := put(s.vars)
	switch s.kind {
	case api.Any:
		if j == i+1 {
			t = yes()
		}
	case api.Test:
		if i == j {
			t = m.log[i].tests[s.number]
		}
	case api.Alt:
		t = union(m.of(s.parts[0], i, j), m.of(s.parts[1], i, j))
	case api.Seq:
		for k := i; k <= j; k++ {
			if a := m.of(s.parts[0], i, k); len(a.Rows) > 0 {
				t = union(t, join(a, m.of(s.parts[1], k, j)))
			}
		}
	case api.Star:
		if i == j {
			return yes()
		}
		for k := i + 1; k <= j; k++ {
			if isClosedTrue(m.of(s.parts[0], i, k)) && isClosedTrue(m.of(s, k, j)) {
				return yes()
			}
		}
	}
	return t
}

// pair is an operator as it was built, all that it was told, and how many points it told.
type pair struct {
	operator
	m     *match.Match
	shape *shape
	vars  [][]string
	model
	told int
}

func newPair(t *testing.T, o operator) *pair {
	t.Helper()
	tests := 0
	p := &pair{operator: o, m: o.must(t), shape: shapeOf(o.r, &tests), model: model{known: map[place]api.Table{}}}
	for _, f := range match.Tests(o.r) {
		p.vars = append(p.vars, ast.Free(f))
	}
	if len(p.vars) != tests {
		t.Fatalf("%v has %d tests, not %d", o, len(p.vars), tests)
	}
	return p
}

// clone has a log of its own, and what was made of the points that both have need not be made again by either.
func (p *pair) clone() *pair {
	c := *p
	c.m = p.m.Clone()
	c.log = slices.Clip(p.log)
	c.known = map[place]api.Table{}
	return &c
}

// means is the operator's table at a point.
func (p *pair) means(i int) api.Table {
	t := put(p.shape.vars)
	for j := range p.log {
		switch {
		case p.after && j >= i && within(p.i, p.log[j].time-p.log[i].time):
			t = union(t, p.of(p.shape, i, j))
		case !p.after && j <= i && within(p.i, p.log[i].time-p.log[j].time):
			t = union(t, p.of(p.shape, j, i))
		}
	}
	return t
}

// settled is whether a point is, by those that have come.
func (p *pair) settled(i int) bool {
	return !p.after || p.log[len(p.log)-1].time > p.log[i].time+p.i.Hi
}

// wants is what must be told with a point that may come, which has come then.
func (p *pair) wants(x point) []api.Verdict {
	p.log = append(p.log, x)
	var l []api.Verdict
	for p.told < len(p.log) && p.settled(p.told) {
		l = append(l, api.Verdict{At: p.told, Time: p.log[p.told].time, Table: p.means(p.told)})
		p.told++
	}
	return l
}

// refuses is P15.3's errors, one by one.
func (p *pair) refuses(x point) api.Errno {
	if x.time < 0 || x.time > last || x.time < p.ahead() {
		return api.ErrTime
	}
	if len(x.tests) != len(p.vars) {
		return api.ErrArg
	}
	for _, t := range x.tests {
		if e := table.Check(t); e != api.OK {
			return e
		}
	}
	for i, t := range x.tests {
		if !slices.Equal(t.Vars, p.vars[i]) {
			return api.ErrVars
		}
	}
	return api.OK
}

func (p *pair) step(t *testing.T, x point) api.Errno {
	t.Helper()
	var want []api.Verdict
	e := p.refuses(x)
	if e == api.OK {
		want = p.wants(x)
	}
	got, g := p.m.Step(x.time, x.tests)
	if g != e || !allAlike(got, want) {
		t.Fatalf("%v, told %v: Step(%v) is %v, %d, not %v, %d", p.operator, p.log, x, got, g, want, e)
	}
	if p.m.Waits() != len(p.log)-p.told {
		t.Fatalf("%v, told %v: %d wait", p.operator, p.log, p.m.Waits())
	}
	for _, v := range got {
		if table.Check(v.Table) != api.OK {
			t.Fatalf("%v tells %v, which may not be", p.operator, v)
		}
	}
	return e
}

// ahead is the time of the point that came last, or 0.
func (p *pair) ahead() int64 {
	if n := len(p.log); n > 0 {
		return p.log[n-1].time
	}
	return 0
}

// empties are tables without rows for all tests.
func (p *pair) empties() []api.Table {
	var l []api.Table
	for _, vars := range p.vars {
		l = append(l, put(vars))
	}
	return l
}

// finish tells a point that settles all that can be.
func (p *pair) finish(t *testing.T) {
	t.Helper()
	p.step(t, point{min(last, p.ahead()+p.i.Hi+1), p.empties()})
	p.step(t, point{last, p.empties()})
}

// through tells each way of one more point, at each of which a test's row is there or not, to a clone of its own, and goes on with it.
func (p *pair) through(t *testing.T, more int) {
	if more == 0 {
		p.finish(t)
		return
	}
	for _, rise := range []int64{0, 1, 2} {
		for way := range 1 << len(p.vars) {
			x := point{time: p.ahead() + rise}
			for n, vars := range p.vars {
				table := put(vars)
				if way>>n&1 == 1 {
					table.Rows = append(table.Rows, slices.Repeat(row(num(1)), len(vars)))
				}
				x.tests = append(x.tests, table)
			}
			c := p.clone()
			c.step(t, x)
			c.through(t, more-1)
		}
	}
}

// both are Before and After of a regex at some intervals.
func both(text string, l ...api.Interval) []operator {
	var all []operator
	for _, i := range l {
		all = append(all, before(i, text))
		if !i.Open {
			all = append(all, after(i, text))
		}
	}
	return all
}

// TestAllShortLogs: P15.3: all logs of few points, at each of which tests are so or not, with times that stay and that rise.
func TestAllShortLogs(t *testing.T) {
	few := []api.Interval{from(0, 0), from(0, 1), from(1, 2), from(2, 2), from(2, last), open(0), open(3)}
	for _, c := range []struct {
		points int
		texts  []string
	}{
		{6, []string{"any", "(star any)", "(seq any any)", "(alt any (seq any any))", "(star (seq any any))", "(star (star any))", "(seq (star (seq any any)) (star (seq any (seq any any))))", "(star (alt (seq any any) (seq any (seq any any))))"}},
		{4, []string{"p.", "c.", "(star c.)", "(seq p. any)", "(seq any p.)", "(seq p. (star any))", "(seq (star any) p.)", "(seq (star any) (seq p. (star any)))", "(star (seq c. any))", "(star (seq any c.))", "(star (alt c. any))", "(seq (star (seq c. any)) any)", "(star (star (seq c. any)))", "(star (seq (star c.) any))", "(alt (star (seq any c.)) (seq any any))"}},
		{3, []string{"(alt p. q.)", "(seq p. q.)", "(seq p. (seq any q.))", "(seq p. (seq (star any) q.))", "(alt p. (seq any q.))", "(seq (star (seq c. any)) p.)", "(seq p. (star (seq c. any)))", "(seq p. (seq any py))", "(star (alt (seq c. any) (seq any d.)))", "(seq (alt p. (seq any p.)) (star any))"}},
	} {
		for _, text := range c.texts {
			for _, o := range both(text, few...) {
				newPair(t, o).through(t, c.points)
			}
		}
	}
}

// TestAllShortLogsOfThree: P15.3: the same of regexes with three tests, of variables that the others know or not.
func TestAllShortLogsOfThree(t *testing.T) {
	for _, text := range []string{"(seq p. (seq any (seq py (seq any pxy))))", "(seq p. (seq (star any) (seq py (seq (star any) pxy))))", "(seq p. (seq (seq (alt any (star c.)) py) any))", "(seq p. (seq py (star (seq c. any))))", "(seq p. (alt (seq any (seq pxy any)) (seq pxy any)))"} {
		for _, o := range both(text, from(0, 1), from(1, 2), open(0)) {
			newPair(t, o).through(t, 3)
		}
	}
}

// maker makes regexes that are accepted.
type maker struct {
	s     *stream
	parts int // how many more there may be
	tests int
	all   []string
}

// some are variables out of all.
func (g *maker) some(n int) []string {
	l := slices.Clone(g.all)
	for i := range l {
		k := i + g.s.below(len(l)-i)
		l[i], l[k] = l[k], l[i]
	}
	return slices.Sorted(slices.Values(l[:min(n, len(l))]))
}

// test is of just these variables.
func (g *maker) test(vars []string) api.Regex {
	g.tests++
	f := pred("p", vars...)
	switch {
	case len(vars) > api.MaxArgs:
		f = api.Formula{Kind: api.And, Subs: []api.Formula{pred("p", vars[:4]...), pred("q", vars[4:]...)}}
	case g.s.chance(4):
		f = api.Formula{Kind: api.Exists, Vars: names("bound"), Subs: []api.Formula{{Kind: api.And, Subs: []api.Formula{f, pred("q", "bound")}}}}
	}
	return test(f)
}

// regex is of just these variables.
func (g *maker) regex(vars []string) api.Regex {
	g.parts--
	if g.parts <= 0 || g.s.chance(6) {
		if len(vars) == 0 && !g.s.chance(3) {
			return api.Regex{Kind: api.Any}
		}
		return g.test(vars)
	}
	switch n := g.s.below(8); {
	case n < 2:
		return part(api.Alt, g.regex(vars), g.regex(vars))
	case n < 4 && len(vars) == 0:
		return part(api.Star, g.regex(nil))
	}
	return g.seq(vars)
}

// seq has parts whose variables are, together, these.
func (g *maker) seq(vars []string) api.Regex {
	var a, b []string
	for _, v := range vars {
		n := g.s.below(3)
		if n != 0 {
			a = append(a, v)
		}
		if n != 1 {
			b = append(b, v)
		}
	}
	if g.s.chance(3) {
		a, b = nil, vars
	} else if g.s.chance(3) {
		a, b = vars, nil
	}
	return part(api.Seq, g.regex(a), g.regex(b))
}

// chain is tests of ever other variables with steps between, one by one, bracketed in any way.
func (g *maker) chain() api.Regex {
	var l []api.Regex
	for range 2 + g.s.below(4) {
		l = append(l, g.test(g.some(pick(g.s, 0, 1, 1, 1, 2, 2, 3))))
		if !g.s.chance(4) {
			l = append(l, regex(pick(g.s, "any", "any", "(star any)", "(star (seq any any))", "(alt any (star any))", "(alt any (seq any any))")))
		}
	}
	for len(l) > 1 {
		// Mostly from behind, as they are mostly written.
		n := len(l) - 2
		if g.s.chance(4) {
			n = g.s.below(len(l) - 1)
		}
		l = slices.Replace(l, n, n+2, part(api.Seq, l[n], l[n+1]))
	}
	return l[0]
}

func (s *stream) interval(after bool) api.Interval {
	lo := pick(s, 0, 0, 0, int64(s.below(4)), int64(s.below(30)))
	if s.chance(20) {
		lo = last - int64(s.below(5))
	}
	if !after && s.chance(4) {
		return open(lo)
	}
	return from(lo, min(last, lo+pick(s, 0, int64(s.below(4)), int64(s.below(12)), int64(s.below(30)), int64(s.below(30)), last)))
}

func (s *stream) operator(most int) operator {
	g := &maker{s: s, parts: 1 + s.below(most), all: letters("abcdefgh")}
	after := s.chance(2)
	if s.chance(3) {
		g.all = letters("abcd")[:1+s.below(4)]
		return operator{after, s.interval(after), g.chain()}
	}
	r := g.regex(g.some(pick(s, 0, 1, 1, 2, 2, 3, 3, 8)))
	return operator{after, s.interval(after), r}
}

// table is of few values, so that rows come again, and fit.
func (s *stream) table(vars []string, most int) api.Table {
	var rows [][]api.Value
	for range s.below(most + 1) {
		var r []api.Value
		for range vars {
			r = append(r, pick(s, num(0), num(0), num(1), num(1), rat(1, 1), rat(1, 2), str("1")))
		}
		rows = append(rows, r)
	}
	slices.SortFunc(rows, value.CompareRow)
	return put(vars, slices.CompactFunc(rows, slices.Equal)...)
}

// point is one that may come behind those that have.
func (s *stream) point(p *pair) point {
	ahead := p.ahead()
	x := point{time: ahead + pick(s, 0, 0, 0, 1, 1, int64(s.below(4)), int64(s.below(10)))}
	if s.chance(200) {
		x.time = max(ahead, last-int64(s.below(8)))
	}
	x.time = min(x.time, last)
	for _, vars := range p.vars {
		x.tests = append(x.tests, s.table(vars, 4))
	}
	return x
}

// spoilt is a point with one thing wrong, or with several.
func (s *stream) spoilt(x point) point {
	x.tests = slices.Clone(x.tests)
	for range 1 + s.below(2) {
		n := len(x.tests)
		switch s.below(5) {
		case 0:
			x.time = pick(s, -1, last+1, x.time-1, x.time-int64(s.below(50)))
		case 1:
			x.tests = append(x.tests, put(nil))
		case 2:
			x.tests = x.tests[:max(0, n-1)]
		case 3:
			if n > 0 {
				x.tests[s.below(n)] = pick(s, mayNot()...).tests[0]
			}
		case 4:
			if n > 0 {
				x.tests[s.below(n)] = pick(s, otherVars()...)
			}
		}
	}
	return x
}

// TestMany: P15.3, P15.4: many operators of all forms, with wrong points between, and clones that go on beside them.
func TestMany(t *testing.T) {
	s := stream(5)
	met := map[api.Errno]int{}
	for range 4000 {
		l := []*pair{newPair(t, s.operator(12))}
		for range 25 {
			p := pick(&s, l...)
			x := s.point(p)
			if s.chance(6) {
				x = s.spoilt(x)
			}
			met[p.step(t, x)]++
			if s.chance(25) {
				l = append(l, p.clone())
			}
		}
		for _, p := range l {
			p.finish(t)
		}
	}
	for _, e := range []api.Errno{api.OK, api.ErrArg, api.ErrKind, api.ErrLong, api.ErrVars, api.ErrTime} {
		if met[e] < 100 {
			t.Errorf("%d is met %d times", e, met[e])
		}
	}
}

// TestManyParts: P15.3: regexes of many parts.
func TestManyParts(t *testing.T) {
	s := stream(7)
	for range 500 {
		o := s.operator(60)
		if _, e := o.made(); e != api.OK {
			continue // too deep
		}
		p := newPair(t, o)
		for range 12 {
			p.step(t, s.point(p))
		}
		p.finish(t)
	}
}

// TestLongLogs: P15.3: few rows over long logs, so that each comes, is told, let go, and comes again many times.
func TestLongLogs(t *testing.T) {
	s := stream(9)
	for _, text := range []string{"(seq p. (star any))", "(seq (star any) p.)", "(seq p. (seq (star any) q.))", "(seq p. (star (seq c. any)))", "(star (seq c. (alt any (seq any any))))", "(seq p. (seq (star any) (seq py (seq (star (seq c. any)) pxy))))", "(seq (star (seq any any)) (seq p. (seq any any)))", "(seq p. (seq any (seq py (seq (star any) (seq qz (seq any (test (r x y z))))))))", "(seq p. (seq (star any) (seq py (seq (star any) (seq qz (seq (star any) (test (r x z))))))))"} {
		for _, o := range both(text, from(0, 0), from(0, 3), from(2, 2), from(3, 9), from(0, 30), from(10, 13), from(20, 60), open(0), open(4)) {
			for _, rise := range []int{1, 3} {
				p := newPair(t, o)
				for range 40 {
					x := point{time: p.ahead() + int64(s.below(rise+1))}
					for _, vars := range p.vars {
						x.tests = append(x.tests, s.table(vars, pick(&s, 0, 1, 1, 2)))
					}
					p.step(t, x)
				}
				p.finish(t)
			}
		}
	}
}

// wide is a table of many values: of many rows, or of few that fit to few of many.
func (s *stream) wide(vars []string) api.Table {
	var rows [][]api.Value
	for range pick(s, 0, 1, 1, 2, 20, 60) {
		var r []api.Value
		for range vars {
			r = append(r, num(int64(s.below(12))))
		}
		rows = append(rows, r)
	}
	slices.SortFunc(rows, value.CompareRow)
	return put(vars, slices.CompactFunc(rows, slices.Equal)...)
}

// TestManyRows: P15.3: many rows and few, by whatever variables they fit, and rows that were made of others on their way to more tests.
func TestManyRows(t *testing.T) {
	s := stream(13)
	const two, stars = "(seq p. (seq any (seq py (seq any pxy))))", "(seq p. (seq (star any) (seq py (seq (star any) pxy))))"
	for _, text := range []string{"(seq pxy (seq any q.))", "(seq pxy (seq any py))", "(seq pxy (seq (star any) pxy))", "(seq pxy (seq (star any) py))", "(seq (test (p x y z)) (seq (star any) (test (q x z))))", "(seq (test (p x y z)) (seq (star any) (test (q y x))))", "(seq p. (seq (star any) py))", "(seq " + two + " (seq any q.))", "(seq " + two + " (seq (star any) py))", "(seq " + stars + " (seq (star any) pxy))", "(seq " + stars + " (seq any q.))", "(seq " + stars + " (seq any (seq qz (seq (star any) (test (r x y z))))))", "(seq (alt " + two + " " + stars + ") (seq (star any) q.))"} {
		for _, o := range both(text, from(0, 0), from(0, 3), from(1, 9), from(0, 30), open(0), open(2)) {
			for range 4 {
				p := newPair(t, o)
				for range 10 {
					x := point{time: p.ahead() + int64(s.below(3))}
					for _, vars := range p.vars {
						x.tests = append(x.tests, s.wide(vars))
					}
					p.step(t, x)
				}
				p.finish(t)
			}
		}
	}
}

// TestClone: P15.4, R5: two go on by themselves from wherever they part, and neither sees what the other is told, right or wrong.
func TestClone(t *testing.T) {
	s := stream(21)
	for range 400 {
		o := s.operator(12)
		o.i = pick(&s, o.i, from(0, 0), from(0, 2), from(1, 3), from(0, 9), from(3, 40))
		p := newPair(t, o)
		for range s.below(12) {
			p.step(t, s.point(p))
		}
		a, b := p.clone(), p.clone()
		c := a.clone()
		for range 6 {
			a.step(t, s.point(a))
			b.step(t, s.spoilt(s.point(b)))
			b.step(t, s.point(b))
			if s.chance(3) {
				c = c.clone()
				c.step(t, s.point(c))
			}
		}
		for range 4 {
			p.step(t, s.point(p))
			c.step(t, s.point(c))
		}
		for _, x := range []*pair{p, a, b, c} {
			x.finish(t)
		}
	}
}

// TestCloneAhead: P15.4: what the one has been told is not seen by the other, told by hand.
func TestCloneAhead(t *testing.T) {
	m := before(from(0, 4), "(seq p. (seq (star any) q.))").must(t)
	fresh := m.Clone()
	come := []told{at(0, xs(1), xs()).tells(xs()), at(2, xs(2), xs(1)).tells(xs(1))}
	run(t, m, come...)
	c := m.Clone()
	goOn(t, m, come, at(3, xs(3), xs(1, 2, 3)).tells(xs(1, 2, 3)), at(5, xs(), xs(1, 2, 3)).tells(xs(2, 3)))
	goOn(t, c, come, at(2, xs(), xs(1, 2, 3)).tells(xs(1, 2)), at(6, xs(), xs(1, 2, 3)).tells(xs(2)))
	run(t, fresh, at(0, xs(), xs(1, 2, 3)).tells(xs()), at(1, xs(9), xs(9)).tells(xs(9)))

	// One point settles many in the one, which still wait in the other.
	m = after(from(1, 4), "(seq (star any) p.)").must(t)
	fresh = m.Clone()
	come = []told{at(0, xs(1)).tells(), at(1, xs(2)).tells(), at(2, xs(3)).tells()}
	run(t, m, come...)
	c = m.Clone()
	goOn(t, m, come, at(7, xs(9)).tells(xs(2, 3), xs(3), xs()))
	goOn(t, c, come, at(4, xs(4)).tells(), at(5, xs(5)).tells(xs(2, 3, 4)), at(20, xs()).tells(xs(3, 4, 5), xs(4, 5), xs(5), xs()))
	run(t, fresh, at(3, xs(5)).tells(), at(4, xs(6)).tells(), at(8, xs()).tells(xs(6)))
}

// TestClonesAtOnce: P15.4, R5: clones that are told points at the same time do not meet in what they share.
func TestClonesAtOnce(t *testing.T) {
	s := stream(61)
	for range 60 {
		o := s.operator(12)
		p := newPair(t, o)
		for range 8 {
			p.step(t, s.point(p))
		}
		var all sync.WaitGroup
		for k := range 4 {
			c, own := p.clone(), stream(71+k)
			all.Go(func() {
				for range 10 {
					x := own.point(c)
					want := c.wants(x)
					if got, e := c.m.Step(x.time, x.tests); e != api.OK || !allAlike(got, want) {
						t.Errorf("%v: %v, %d, not %v", o, got, e, want)
						return
					}
				}
			})
		}
		all.Wait()
	}
}

// roomy is a table whose lists have room behind them, and all of what stands in them and in that room.
func roomy(x api.Table) (api.Table, func() string) {
	vars := append(slices.Clone(x.Vars), "behind", "too")
	from := append(slices.Clone(x.Rows), nil, row(num(99)))
	var kept [][]api.Value
	for i, r := range x.Rows {
		all := append(slices.Clone(r), num(98), num(97))
		kept = append(kept, all)
		from[i] = all[:len(r)]
	}
	whole := func() string { return tell(vars, from, kept) }
	return api.Table{Vars: vars[:len(x.Vars)], Rows: from[:len(x.Rows)]}, whole
}

func tell(vars []string, lists ...[][]api.Value) string {
	var b strings.Builder
	b.WriteString(strings.Join(vars, ","))
	for _, rows := range lists {
		for _, r := range rows {
			b.WriteString(";")
			for _, v := range r {
				s, _ := value.Print(v)
				b.WriteString(s + " ")
			}
		}
	}
	return b.String()
}

// mark is what spoil writes at a place of a row of a table of an answer.
func mark(n, i, k int) api.Value {
	return api.Value{Kind: n, N: int64(i), D: int64(k), S: "written"}
}

// spoil writes into each list of some tables, and into the room behind it, and sees that no two of them are one.
func spoil(t *testing.T, l ...api.Table) {
	t.Helper()
	for n, x := range l {
		for i, r := range x.Rows {
			for k := range r[:cap(r)] {
				r[:cap(r)][k] = mark(n, i, k)
			}
		}
	}
	for n, x := range l {
		for i, r := range x.Rows {
			for k, v := range r[:cap(r)] {
				if v != mark(n, i, k) {
					t.Error("two rows share room")
				}
			}
		}
	}
	for n, x := range l {
		for i := range x.Rows[:cap(x.Rows)] {
			x.Rows[:cap(x.Rows)][i] = row(mark(n, i, 0))
		}
		for i := range x.Vars[:cap(x.Vars)] {
			x.Vars[:cap(x.Vars)][i] = strings.Repeat("v", n)
		}
	}
	for n, x := range l {
		for i, r := range x.Rows[:cap(x.Rows)] {
			if r[0] != mark(n, i, 0) {
				t.Error("two lists of rows share room")
			}
		}
		for _, v := range x.Vars[:cap(x.Vars)] {
			if v != strings.Repeat("v", n) {
				t.Error("two lists of variables share room")
			}
		}
	}
}

// spoilAll is spoil of all tables of an answer, and writes over the answer itself.
func spoilAll(t *testing.T, l []api.Verdict) {
	t.Helper()
	var tables []api.Table
	for _, v := range l {
		tables = append(tables, v.Table)
	}
	spoil(t, tables...)
	all := l[:cap(l)]
	for i := range all {
		all[i] = api.Verdict{At: -1, Time: -1}
	}
}

// rooms are tables with room behind them, and what tells whether all of them are as they were.
func rooms(l []api.Table) ([]api.Table, func() bool) {
	var to []api.Table
	var wholes []func() string
	var before []string
	for _, from := range l {
		t, whole := roomy(from)
		to, wholes, before = append(to, t), append(wholes, whole), append(before, whole())
	}
	return to, func() bool {
		return slices.EqualFunc(wholes, before, func(whole func() string, was string) bool { return whole() == was })
	}
}

// overwrite writes over all of a regex.
func overwrite(r api.Regex) {
	for i := range r.Test {
		overwriteFormula(r.Test[i])
		r.Test[i] = api.Formula{Kind: -1}
	}
	for i := range r.Subs {
		overwrite(r.Subs[i])
		r.Subs[i] = api.Regex{Kind: -1}
	}
}

func overwriteFormula(f api.Formula) {
	for i := range f.Vars {
		f.Vars[i] = "written"
	}
	for i := range f.Terms {
		f.Terms[i] = api.Term{}
	}
	for i := range f.Subs {
		overwriteFormula(f.Subs[i])
		f.Subs[i] = api.Formula{}
	}
}

// TestMemory: rule R4: what is handed in stays as it is, and may be written over behind the call; what is told is the caller's own.
func TestMemory(t *testing.T) {
	s := stream(31)
	for range 1200 {
		o := s.operator(12)
		o.i = pick(&s, o.i, from(0, 0), from(0, 3), from(1, 9), from(0, 60))
		p := newPair(t, o)
		handed := ast.Clone(o.formula())
		p.m = operator{o.after, o.i, handed.Regex[0]}.must(t)
		if !ast.Same(handed, o.formula()) {
			t.Fatalf("%v was changed", o)
		}
		overwrite(handed.Regex[0])
		for range 12 {
			x := s.point(p)
			want := p.wants(x)
			handed, unchanged := rooms(x.tests)
			c := p.m.Clone()
			for _, m := range []*match.Match{p.m, c} {
				got, e := m.Step(x.time, handed)
				if e != api.OK || !allAlike(got, want) {
					t.Fatalf("%v, told %v: %v, %d, not %v", o, p.log, got, e, want)
				}
				spoilAll(t, got)
			}
			if !unchanged() {
				t.Fatalf("%v: what was handed in was changed", o)
			}
			spoil(t, handed...)
			clear(handed)
			p.m = pick(&s, p.m, c)
		}
	}
}

// TestOneAnswer: rule R5: the same told again, the same answers, in whatever order rows are gone through within.
func TestOneAnswer(t *testing.T) {
	s := stream(37)
	for range 60 {
		o := s.operator(12)
		p := newPair(t, o)
		var wants [][]api.Verdict
		for range 20 {
			x := s.point(p)
			p.log = append(p.log, x)
			got, _ := p.m.Step(x.time, x.tests)
			wants = append(wants, got)
		}
		for range 3 {
			m, n := o.must(t), 0
			for i, x := range p.log {
				n += len(wants[i])
				step(t, m, x, wants[i], api.OK, i+1-n)
			}
		}
	}
}
