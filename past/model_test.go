package past_test

import (
	"slices"
	"strings"
	"testing"

	"custos/api"
	"custos/past"
	"custos/table"
	"custos/value"
)

// stream is numbers that look as if by chance, the same at each run.
type stream uint64

func (s *stream) next() uint64 {
	x := uint64(*s)
	x ^= x << 13
	x ^= x >> 7
	x ^= x << 17
	*s = stream(x)
	return x
}

func (s *stream) below(n int) int { return int(s.next() % uint64(n)) }

func (s *stream) chance(n int) bool { return s.below(n) == 0 }

func pick[T any](s *stream, l ...T) T { return l[s.below(len(l))] }

// within is DOC.md's words on intervals.
func within(i api.Interval, n int64) bool { return n >= i.Lo && (i.Open || n <= i.Hi) }

// fits is DOC.md's: the same values at the variables that both have.
func fits(vars []string, r []api.Value, others []string, s []api.Value) bool {
	for c, v := range vars {
		if d := slices.Index(others, v); d >= 0 && r[c] != s[d] {
			return false
		}
	}
	return true
}

// carried is whether a row has come from the point j to the last one by what left has above j.
func (o operator) carried(log []point, j int, vars []string, r []api.Value) bool {
	for _, x := range log[j+1:] {
		left := x.tables[0]
		one := slices.ContainsFunc(left.Rows, func(s []api.Value) bool { return fits(vars, r, left.Vars, s) })
		if one == o.not {
			return false
		}
	}
	return true
}

// means is the operator's table at the last point of a log, by the words of DOC.md's table: all points anew, each time.
func (o operator) means(log []point) api.Table {
	vars := slices.Sorted(slices.Values(o.right))
	w := put(vars)
	now := len(log) - 1
	for j, x := range log {
		right := x.tables[len(x.tables)-1]
		if !within(o.i, log[now].time-x.time) || o.kind == prev && j != now-1 {
			continue
		}
		for _, r := range right.Rows {
			if o.kind != since || o.carried(log, j, vars, r) {
				w.Rows = append(w.Rows, r)
			}
		}
	}
	slices.SortFunc(w.Rows, value.CompareRow)
	w.Rows = slices.CompactFunc(w.Rows, slices.Equal)
	return w
}

// refuses is P13.2's errors, one by one.
func (o operator) refuses(log []point, x point) api.Errno {
	if x.time < 0 || x.time > last || len(log) > 0 && x.time < log[len(log)-1].time {
		return api.ErrTime
	}
	wanted := [][]string{o.right}
	if o.kind == since {
		wanted = [][]string{o.left, o.right}
	}
	if len(x.tables) != len(wanted) {
		return api.ErrArg
	}
	for _, t := range x.tables {
		if e := table.Check(t); e != api.OK {
			return e
		}
	}
	for i, t := range x.tables {
		if !slices.Equal(t.Vars, slices.Sorted(slices.Values(wanted[i]))) {
			return api.ErrVars
		}
	}
	return api.OK
}

// pair is an operator as it was built, and all that it was told.
type pair struct {
	operator
	p   *past.Past
	log []point
}

func newPair(t *testing.T, o operator) *pair {
	t.Helper()
	return &pair{operator: o, p: o.must(t)}
}

func (m *pair) clone() *pair {
	return &pair{m.operator, m.p.Clone(), slices.Clip(m.log)}
}

func (m *pair) step(t *testing.T, x point) api.Errno {
	t.Helper()
	e, want := m.refuses(m.log, x), nought()
	if e == api.OK {
		m.log = append(m.log, x)
		want = m.means(m.log)
	}
	got, f := m.p.Step(x.time, x.tables)
	if f != e || !alike(got, want) {
		t.Fatalf("%v, told %v: Step(%v) is %v, %d, not %v, %d", m.operator, m.log, x, got, f, want, e)
	}
	if e == api.OK && table.Check(got) != api.OK {
		t.Fatalf("%v tells %v, which may not be", m.operator, got)
	}
	return e
}

// intervals are of few times, at their edges and between.
func intervals() []api.Interval {
	return []api.Interval{from(0, 0), from(0, 1), from(0, 3), from(1, 1), from(1, 2), from(2, 2), from(2, 5), from(3, 3), from(0, last), from(4, last), open(0), open(1), open(3)}
}

// subsets are all tables of x with the values up to n.
func subsets(n int) []api.Table {
	var l []api.Table
	for set := range 1 << n {
		x := xs()
		for i := range n {
			if set>>i&1 == 1 {
				x.Rows = append(x.Rows, row(num(int64(i))))
			}
		}
		l = append(l, x)
	}
	return l
}

// through tells each way of one more point, at each of which a row is there or not, to a clone of its own, and goes on with it.
func (m *pair) through(t *testing.T, more int) {
	if more == 0 {
		return
	}
	tables, time := subsets(1), int64(0)
	if n := len(m.log); n > 0 {
		time = m.log[n-1].time
	}
	for _, rise := range []int64{0, 1, 2} {
		for _, right := range tables {
			lefts := tables
			if m.kind != since {
				lefts = tables[:1]
			}
			for _, left := range lefts {
				x := at(time+rise, left, right)
				if m.kind != since {
					x.tables = x.tables[1:]
				}
				c := m.clone()
				c.step(t, x)
				c.through(t, more-1)
			}
		}
	}
}

// TestAllShortLogs: P13.2: all logs of few points with one row, at each interval, with times that stay and that rise.
func TestAllShortLogs(t *testing.T) {
	for _, i := range intervals() {
		for _, o := range operators(i) {
			points := 4
			if o.kind != since {
				points = 5
			}
			newPair(t, o).through(t, points)
		}
	}
}

// TestAllShortLogsOfTwoRows: P13.2: all logs of three points with two rows, each there or not, at left and right.
func TestAllShortLogsOfTwoRows(t *testing.T) {
	tables := subsets(2)
	for _, i := range []api.Interval{from(0, 0), from(0, 1), from(1, 1), from(1, 2), open(0), open(1)} {
		for _, o := range operators(i)[2:] {
			for way := range 1 << 12 {
				for rises := range 4 {
					m, time := newPair(t, o), int64(0)
					for n := range 3 {
						part := way >> (4 * n)
						m.step(t, at(time, tables[part&3], tables[part>>2&3]))
						time += int64(rises >> n & 1)
					}
				}
			}
		}
	}
}

// some are variables out of as many as may be, in any order.
func (s *stream) some(of []string, n int) []string {
	l := slices.Clone(of)
	for i := range l {
		k := i + s.below(len(l)-i)
		l[i], l[k] = l[k], l[i]
	}
	return l[:min(n, len(l))]
}

func (s *stream) interval() api.Interval {
	lo := pick(s, 0, 0, int64(s.below(4)), int64(s.below(30)), last, last-int64(s.below(5)))
	if s.chance(3) {
		return open(lo)
	}
	return from(lo, min(last, lo+pick(s, 0, int64(s.below(4)), int64(s.below(30)), last)))
}

func (s *stream) operator() operator {
	o := operator{kind: s.below(4), i: s.interval(), not: s.chance(2)}
	o.kind = min(o.kind, since)
	o.right = s.some(letters("abcdefgh"), pick(s, 0, 1, 1, 2, 2, 3, 8))
	if o.kind == since {
		o.left = s.some(o.right, s.below(len(o.right)+1))
	}
	return o
}

// table is of few values, so that rows come again.
func (s *stream) table(vars []string, most int) api.Table {
	t := put(slices.Sorted(slices.Values(vars)))
	for range s.below(most + 1) {
		var r []api.Value
		for range vars {
			r = append(r, pick(s, num(0), num(1), num(1), rat(1, 1), str("1"), str("")))
		}
		t.Rows = append(t.Rows, r)
	}
	slices.SortFunc(t.Rows, value.CompareRow)
	t.Rows = slices.CompactFunc(t.Rows, slices.Equal)
	return t
}

// point is one that may come behind those that have.
func (s *stream) point(m *pair) point {
	ahead := int64(0)
	if len(m.log) > 0 {
		ahead = m.log[len(m.log)-1].time
	}
	x := point{time: ahead + pick(s, 0, 0, 1, int64(s.below(4)), int64(s.below(40)))}
	if s.chance(300) {
		x.time = max(ahead, last-int64(s.below(8)))
	}
	x.time = min(x.time, last)
	if m.kind == since {
		x.tables = append(x.tables, s.table(m.left, 6))
	}
	x.tables = append(x.tables, s.table(m.right, 4))
	return x
}

// spoilt is a point with one thing wrong, or with several.
func (s *stream) spoilt(x point) point {
	x.tables = slices.Clone(x.tables)
	for range 1 + s.below(2) {
		n := len(x.tables)
		switch s.below(5) {
		case 0:
			x.time = pick(s, -1, last+1, x.time-1, x.time-int64(s.below(50)))
		case 1:
			x.tables = append(x.tables, put(nil))
		case 2:
			x.tables = x.tables[:max(0, n-1)]
		case 3:
			if n > 0 {
				x.tables[s.below(n)] = pick(s, mayNot()...).tables[0]
			}
		case 4:
			if n > 0 {
				x.tables[s.below(n)] = pick(s, otherVars()...)
			}
		}
	}
	return x
}

// TestMany: P13.2, P13.3: many operators of all forms, with wrong points between, and clones that go on beside them.
func TestMany(t *testing.T) {
	s := stream(5)
	met := map[api.Errno]int{}
	for range 5000 {
		l := []*pair{newPair(t, s.operator())}
		for range 60 {
			m := pick(&s, l...)
			x := s.point(m)
			if s.chance(6) {
				x = s.spoilt(x)
			}
			met[m.step(t, x)]++
			if s.chance(25) {
				l = append(l, m.clone())
			}
		}
	}
	for _, e := range []api.Errno{api.OK, api.ErrArg, api.ErrKind, api.ErrLong, api.ErrVars, api.ErrTime} {
		if met[e] < 100 {
			t.Errorf("%d is met %d times", e, met[e])
		}
	}
}

// TestLongLogs: P13.2: few rows over long logs, so that each comes, waits, is told, let go, and comes again many times.
func TestLongLogs(t *testing.T) {
	s := stream(9)
	for _, i := range append(intervals(), from(10, 10), from(10, 13), from(20, 90), open(15)) {
		for _, o := range operators(i) {
			m := newPair(t, o)
			rise := 1 + s.below(4)
			for n := range 300 {
				x := at(0, xs(), xs())
				if n > 0 {
					x.time = m.log[n-1].time + int64(s.below(rise))
				}
				for k := range int64(4) {
					if !s.chance(8) {
						x.tables[0].Rows = append(x.tables[0].Rows, row(num(k)))
					}
					if s.chance(5) {
						x.tables[1].Rows = append(x.tables[1].Rows, row(num(k)))
					}
				}
				if o.not {
					x.tables[0] = xs(int64(s.below(6)))
				}
				if o.kind != since {
					x.tables = x.tables[1:]
				}
				m.step(t, x)
			}
		}
	}
}

// TestClone: P13.3, R5: two go on by themselves from wherever they part, and neither sees what the other is told, right or wrong.
func TestClone(t *testing.T) {
	for _, i := range []api.Interval{from(0, 0), from(0, 2), from(1, 3), from(2, 2), open(0), open(2)} {
		for _, o := range operators(i) {
			s := stream(21)
			for far := range 12 {
				m := newPair(t, o)
				for range far {
					m.step(t, s.point(m))
				}
				a, b := m.clone(), m.clone()
				c := a.clone()
				for range 10 {
					a.step(t, s.point(a))
					b.step(t, s.spoilt(s.point(b)))
					b.step(t, s.point(b))
					if s.chance(3) {
						c = c.clone()
						c.step(t, s.point(c))
					}
				}
				for range 10 {
					m.step(t, s.point(m))
					c.step(t, s.point(c))
				}
			}
		}
	}
}

// TestCloneAhead: P13.3: what the one has been told is not seen by the other, told by hand.
func TestCloneAhead(t *testing.T) {
	p := prevOf(open(0), "x").must(t)
	fresh := p.Clone()
	run(t, p, one(3, xs(1), xs()))
	c := p.Clone()
	run(t, p, one(4, xs(2), xs(1)), one(9, xs(), xs(2)))
	run(t, c, one(3, xs(7), xs(1)), one(3, xs(8), xs(7)))
	run(t, fresh, one(0, xs(5), xs()), one(1, xs(6), xs(5)))
	run(t, p, one(9, xs(), xs()))

	p = notSinceOf(from(2, 4), "x", "x").must(t)
	fresh = p.Clone()
	run(t, p, two(0, xs(), xs(1, 2), xs()), two(2, xs(), xs(3), xs(1, 2)))
	c = p.Clone()
	run(t, p, two(3, xs(1), xs(2), xs(2)), two(5, xs(3), xs(), xs(2)), two(8, xs(), xs(), xs()))
	run(t, c, two(2, xs(2), xs(1), xs(1)), two(4, xs(), xs(), xs(1, 3)), two(6, xs(), xs(), xs(1, 3)), two(7, xs(), xs(), xs()))
	run(t, fresh, two(0, xs(), xs(9), xs()), two(2, xs(), xs(), xs(9)))
}

// roomy is a table whose lists have room behind them, and all of what stands in them and in that room.
func roomy(x api.Table) (api.Table, func() string) {
	vars := append(slices.Clone(x.Vars), "behind", "too")
	from := append(slices.Clone(x.Rows), nil, row(num(99)))
	var kept [][]api.Value
	for i, r := range x.Rows {
		all := append(slices.Clone(r), num(98), num(97))
		kept = append(kept, all)
		from[i] = all[:len(r)]
	}
	whole := func() string { return tell(vars, from, kept) }
	return api.Table{Vars: vars[:len(x.Vars)], Rows: from[:len(x.Rows)]}, whole
}

func tell(vars []string, lists ...[][]api.Value) string {
	var b strings.Builder
	b.WriteString(strings.Join(vars, ","))
	for _, rows := range lists {
		for _, r := range rows {
			b.WriteString(";")
			for _, v := range r {
				s, _ := value.Print(v)
				b.WriteString(s + " ")
			}
		}
	}
	return b.String()
}

// spoil writes into each list of a table, and into the room behind it.
func spoil(t *testing.T, x api.Table) {
	t.Helper()
	all := x.Rows[:cap(x.Rows)]
	for i, r := range x.Rows {
		for k := range r[:cap(r)] {
			r[:cap(r)][k] = api.Value{Kind: i, N: int64(k), S: "written"}
		}
	}
	for i, r := range x.Rows {
		for k, v := range r[:cap(r)] {
			if v != (api.Value{Kind: i, N: int64(k), S: "written"}) {
				t.Error("two rows share room")
			}
		}
	}
	clear(all)
	for i := range x.Vars[:cap(x.Vars)] {
		x.Vars[:cap(x.Vars)][i] = "written"
	}
}

// TestMemory: rule R4: what is handed in stays as it is, and may be written over behind the call; what is told is the caller's own.
func TestMemory(t *testing.T) {
	s := stream(31)
	for range 600 {
		o := s.operator()
		o.i = pick(&s, o.i, open(0), from(0, 3), from(1, 3))
		left, right := append(slices.Clone(o.left), "behind"), append(slices.Clone(o.right), "behind")
		whole := tell(left) + tell(right)
		told := o
		told.left, told.right = left[:len(o.left)], right[:len(o.right)]
		m := &pair{operator: o, p: told.must(t)}
		if tell(left)+tell(right) != whole {
			t.Fatalf("the variables of %v were changed", o)
		}
		for i := range left {
			left[i] = "written"
		}
		for i := range right {
			right[i] = "written"
		}
		for range 20 {
			x := s.point(m)
			m.log = append(m.log, x)
			handed, wholes := point{time: x.time}, []func() string{}
			for _, from := range x.tables {
				to, whole := roomy(from)
				handed.tables, wholes = append(handed.tables, to), append(wholes, whole)
			}
			var before []string
			for _, whole := range wholes {
				before = append(before, whole())
			}
			c := m.p.Clone()
			for _, p := range []*past.Past{m.p, c} {
				got, e := p.Step(handed.time, handed.tables)
				if want := m.means(m.log); e != api.OK || !alike(got, want) {
					t.Fatalf("%v, told %v: %v, %d, not %v", o, m.log, got, e, want)
				}
				spoil(t, got)
			}
			for i, whole := range wholes {
				if whole() != before[i] {
					t.Fatalf("%v: what was handed in was changed", o)
				}
				spoil(t, handed.tables[i])
			}
			m.p = pick(&s, m.p, c)
		}
	}
}

// TestOneAnswer: rule R5: the same told again, the same answers, in whatever order rows are gone through within.
func TestOneAnswer(t *testing.T) {
	s := stream(37)
	for range 40 {
		o := s.operator()
		m := newPair(t, o)
		var wants []api.Table
		for range 25 {
			x := s.point(m)
			m.log = append(m.log, x)
			got, _ := m.p.Step(x.time, x.tables)
			wants = append(wants, got)
		}
		for range 4 {
			p := o.must(t)
			for i, x := range m.log {
				step(t, p, x, wants[i], api.OK)
			}
		}
	}
}
