package future_test

import (
	"slices"
	"strings"
	"sync"
	"testing"

	"custos/api"
	"custos/future"
	"custos/table"
	"custos/value"
)

// stream is numbers that look as if by chance, the same at each run.
type stream uint64

func (s *stream) next() uint64 {
	x := uint64(*s)
	x ^= x << 13
	x ^= x >> 7
	x ^= x << 17
	*s = stream(x)
	return x
}

func (s *stream) below(n int) int { return int(s.next() % uint64(n)) }

func (s *stream) chance(n int) bool { return s.below(n) == 0 }

func pick[T any](s *stream, l ...T) T { return l[s.below(len(l))] }

// within is DOC.md's words on intervals.
func within(i api.Interval, n int64) bool { return n >= i.Lo && n <= i.Hi }

// fits is DOC.md's: the same values at the variables that both have.
func fits(vars []string, r []api.Value, others []string, s []api.Value) bool {
	for c, v := range vars {
		if d := slices.Index(others, v); d >= 0 && r[c] != s[d] {
			return false
		}
	}
	return true
}

// carried is whether a row goes from the last point behind these ahead to the first of them by what left has there.
func (o operator) carried(l []point, vars []string, r []api.Value) bool {
	for _, x := range l {
		left := x.tables[0]
		one := slices.ContainsFunc(left.Rows, func(s []api.Value) bool { return fits(vars, r, left.Vars, s) })
		if one == o.not {
			return false
		}
	}
	return true
}

// means is the operator's table at a point of a log, by the words of DOC.md's table: all points anew, each time.
func (o operator) means(log []point, i int) api.Table {
	vars := slices.Sorted(slices.Values(o.right))
	w := put(vars)
	for j := i; j < len(log); j++ {
		right := log[j].tables[len(log[j].tables)-1]
		if !within(o.i, log[j].time-log[i].time) || o.kind == next && j != i+1 {
			continue
		}
		for _, r := range right.Rows {
			if o.kind != until || o.carried(log[i:j], vars, r) {
				w.Rows = append(w.Rows, r)
			}
		}
	}
	slices.SortFunc(w.Rows, value.CompareRow)
	w.Rows = slices.CompactFunc(w.Rows, slices.Equal)
	return w
}

// settled is the chapter's word: whether a point is, by those that have come.
func (o operator) settled(log []point, i int) bool {
	if o.kind == next {
		return i+1 < len(log)
	}
	return log[len(log)-1].time > log[i].time+o.i.Hi
}

// refuses is P14.2's errors, one by one.
func (o operator) refuses(log []point, x point) api.Errno {
	if x.time < 0 || x.time > last || len(log) > 0 && x.time < log[len(log)-1].time {
		return api.ErrTime
	}
	wanted := [][]string{o.right}
	if o.kind == until {
		wanted = [][]string{o.left, o.right}
	}
	if len(x.tables) != len(wanted) {
		return api.ErrArg
	}
	for _, t := range x.tables {
		if e := table.Check(t); e != api.OK {
			return e
		}
	}
	for i, t := range x.tables {
		if !slices.Equal(t.Vars, slices.Sorted(slices.Values(wanted[i]))) {
			return api.ErrVars
		}
	}
	return api.OK
}

// pair is an operator as it was built, all that it was told, and how many points it told.
type pair struct {
	operator
	f    *future.Future
	log  []point
	told int
}

func newPair(t *testing.T, o operator) *pair {
	t.Helper()
	return &pair{operator: o, f: o.must(t)}
}

func (m *pair) clone() *pair {
	return &pair{m.operator, m.f.Clone(), slices.Clip(m.log), m.told}
}

// wants is what must be told with a point that may come, which has come then.
func (m *pair) wants(x point) []api.Verdict {
	m.log = append(m.log, x)
	var l []api.Verdict
	for m.told < len(m.log) && m.settled(m.log, m.told) {
		l = append(l, api.Verdict{At: m.told, Time: m.log[m.told].time, Table: m.means(m.log, m.told)})
		m.told++
	}
	return l
}

func (m *pair) step(t *testing.T, x point) api.Errno {
	t.Helper()
	var want []api.Verdict
	e := m.refuses(m.log, x)
	if e == api.OK {
		want = m.wants(x)
	}
	got, g := m.f.Step(x.time, x.tables)
	if g != e || !allAlike(got, want) {
		t.Fatalf("%v, told %v: Step(%v) is %v, %d, not %v, %d", m.operator, m.log, x, got, g, want, e)
	}
	if m.f.Waits() != len(m.log)-m.told {
		t.Fatalf("%v, told %v: %d wait", m.operator, m.log, m.f.Waits())
	}
	for _, v := range got {
		if table.Check(v.Table) != api.OK {
			t.Fatalf("%v tells %v, which may not be", m.operator, v)
		}
	}
	return e
}

// ahead is the time of the point that came last, or 0.
func (m *pair) ahead() int64 {
	if n := len(m.log); n > 0 {
		return m.log[n-1].time
	}
	return 0
}

// empties are tables without rows for all parts.
func (m *pair) empties() []api.Table {
	right := put(slices.Sorted(slices.Values(m.right)))
	if m.kind != until {
		return []api.Table{right}
	}
	return []api.Table{put(slices.Sorted(slices.Values(m.left))), right}
}

// finish tells a point that settles all that can be.
func (m *pair) finish(t *testing.T) {
	t.Helper()
	m.step(t, point{min(last, m.ahead()+m.i.Hi+1), m.empties()})
	m.step(t, point{last, m.empties()})
}

// intervals are of few times, at their edges and between.
func intervals() []api.Interval {
	return []api.Interval{from(0, 0), from(0, 1), from(0, 3), from(1, 1), from(1, 2), from(2, 2), from(2, 5), from(3, 3), from(0, last-1), from(2, last-2), from(0, last)}
}

// subsets are all tables of x with the values up to n.
func subsets(n int) []api.Table {
	var l []api.Table
	for set := range 1 << n {
		x := xs()
		for i := range n {
			if set>>i&1 == 1 {
				x.Rows = append(x.Rows, row(num(int64(i))))
			}
		}
		l = append(l, x)
	}
	return l
}

// through tells each way of one more point, at each of which a row is there or not, to a clone of its own, and goes on with it.
func (m *pair) through(t *testing.T, more int) {
	if more == 0 {
		m.finish(t)
		return
	}
	tables, time := subsets(1), m.ahead()
	for _, rise := range []int64{0, 1, 2} {
		for _, right := range tables {
			lefts := tables
			if m.kind != until {
				lefts = tables[:1]
			}
			for _, left := range lefts {
				x := at(time+rise, left, right)
				if m.kind != until {
					x.tables = x.tables[1:]
				}
				c := m.clone()
				c.step(t, x)
				c.through(t, more-1)
			}
		}
	}
}

// TestAllShortLogs: P14.2: all logs of few points with one row, at each interval, with times that stay and that rise.
func TestAllShortLogs(t *testing.T) {
	for _, i := range intervals() {
		for _, o := range operators(i) {
			points := 4
			if o.kind != until {
				points = 5
			}
			newPair(t, o).through(t, points)
		}
	}
}

// TestAllShortLogsOfTwoRows: P14.2: all logs of three points with two rows, each there or not, at left and right.
func TestAllShortLogsOfTwoRows(t *testing.T) {
	tables := subsets(2)
	for _, i := range []api.Interval{from(0, 0), from(0, 1), from(1, 1), from(1, 2), from(0, 5)} {
		for _, o := range operators(i)[2:] {
			for way := range 1 << 12 {
				for rises := range 4 {
					m, time := newPair(t, o), int64(0)
					for n := range 3 {
						part := way >> (4 * n)
						m.step(t, at(time, tables[part&3], tables[part>>2&3]))
						time += int64(rises >> n & 1)
					}
					m.finish(t)
				}
			}
		}
	}
}

// some are variables out of as many as may be, in any order.
func (s *stream) some(of []string, n int) []string {
	l := slices.Clone(of)
	for i := range l {
		k := i + s.below(len(l)-i)
		l[i], l[k] = l[k], l[i]
	}
	return l[:min(n, len(l))]
}

func (s *stream) interval() api.Interval {
	lo := pick(s, 0, 0, 0, int64(s.below(4)), int64(s.below(30)), last-int64(s.below(5)))
	return from(lo, min(last, lo+pick(s, 0, int64(s.below(4)), int64(s.below(4)), int64(s.below(30)), last)))
}

func (s *stream) operator() operator {
	o := operator{kind: s.below(4), i: s.interval(), not: s.chance(2)}
	o.kind = min(o.kind, until)
	o.right = s.some(letters("abcdefgh"), pick(s, 0, 1, 1, 2, 2, 3, 8))
	if o.kind == until {
		o.left = s.some(o.right, s.below(len(o.right)+1))
	}
	return o
}

// table is of few values, so that rows come again.
func (s *stream) table(vars []string, most int) api.Table {
	t := put(slices.Sorted(slices.Values(vars)))
	for range s.below(most + 1) {
		var r []api.Value
		for range vars {
			r = append(r, pick(s, num(0), num(1), num(1), rat(1, 1), str("1"), str("")))
		}
		t.Rows = append(t.Rows, r)
	}
	slices.SortFunc(t.Rows, value.CompareRow)
	t.Rows = slices.CompactFunc(t.Rows, slices.Equal)
	return t
}

// point is one that may come behind those that have.
func (s *stream) point(m *pair) point {
	ahead := m.ahead()
	x := point{time: ahead + pick(s, 0, 0, 1, int64(s.below(4)), int64(s.below(40)))}
	if s.chance(300) {
		x.time = max(ahead, last-int64(s.below(8)))
	}
	x.time = min(x.time, last)
	if m.kind == until {
		x.tables = append(x.tables, s.table(m.left, 6))
	}
	x.tables = append(x.tables, s.table(m.right, 4))
	return x
}

// spoilt is a point with one thing wrong, or with several.
func (s *stream) spoilt(x point) point {
	x.tables = slices.Clone(x.tables)
	for range 1 + s.below(2) {
		n := len(x.tables)
		switch s.below(5) {
		case 0:
			x.time = pick(s, -1, last+1, x.time-1, x.time-int64(s.below(50)))
		case 1:
			x.tables = append(x.tables, put(nil))
		case 2:
			x.tables = x.tables[:max(0, n-1)]
		case 3:
			if n > 0 {
				x.tables[s.below(n)] = pick(s, mayNot()...).tables[0]
			}
		case 4:
			if n > 0 {
				x.tables[s.below(n)] = pick(s, otherVars()...)
			}
		}
	}
	return x
}

// TestMany: P14.2, P14.3: many operators of all forms, with wrong points between, and clones that go on beside them.
func TestMany(t *testing.T) {
	s := stream(5)
	met := map[api.Errno]int{}
	for range 4000 {
		l := []*pair{newPair(t, s.operator())}
		for range 60 {
			m := pick(&s, l...)
			x := s.point(m)
			if s.chance(6) {
				x = s.spoilt(x)
			}
			met[m.step(t, x)]++
			if s.chance(25) {
				l = append(l, m.clone())
			}
		}
		for _, m := range l {
			m.finish(t)
		}
	}
	for _, e := range []api.Errno{api.OK, api.ErrArg, api.ErrKind, api.ErrLong, api.ErrVars, api.ErrTime} {
		if met[e] < 100 {
			t.Errorf("%d is met %d times", e, met[e])
		}
	}
}

// rare is a point of few rows: most of those that left may have, some of those of right.
func (s *stream) rare(o operator, time int64) point {
	x := at(time, xs(), xs())
	for k := range int64(4) {
		if !s.chance(8) {
			x.tables[0].Rows = append(x.tables[0].Rows, row(num(k)))
		}
		if s.chance(5) {
			x.tables[1].Rows = append(x.tables[1].Rows, row(num(k)))
		}
	}
	if o.not {
		x.tables[0] = xs(int64(s.below(6)))
	}
	if o.kind != until {
		x.tables = x.tables[1:]
	}
	return x
}

// TestLongLogs: P14.2: few rows over long logs, so that each comes, is told, let go, and comes again many times.
func TestLongLogs(t *testing.T) {
	s := stream(9)
	for _, i := range append(intervals(), from(10, 10), from(10, 13), from(20, 60), from(0, 30)) {
		for _, o := range operators(i) {
			for _, rise := range []int{1, 2, 4, 12} {
				m := newPair(t, o)
				for range 150 {
					m.step(t, s.rare(o, m.ahead()+int64(s.below(rise))))
				}
				m.finish(t)
			}
		}
	}
}

// TestClone: P14.3, R5: two go on by themselves from wherever they part, and neither sees what the other is told, right or wrong.
func TestClone(t *testing.T) {
	for _, i := range []api.Interval{from(0, 0), from(0, 2), from(1, 3), from(2, 2), from(0, 9), from(3, 40)} {
		for _, o := range operators(i) {
			s := stream(21)
			for far := range 12 {
				m := newPair(t, o)
				for range far {
					m.step(t, s.rare(o, m.ahead()+int64(s.below(2))))
				}
				a, b := m.clone(), m.clone()
				c := a.clone()
				for range 10 {
					a.step(t, s.rare(o, a.ahead()+int64(s.below(3))))
					b.step(t, s.spoilt(s.point(b)))
					b.step(t, s.rare(o, b.ahead()+int64(s.below(3))))
					if s.chance(3) {
						c = c.clone()
						c.step(t, s.point(c))
					}
				}
				for range 10 {
					m.step(t, s.rare(o, m.ahead()+int64(s.below(2))))
					c.step(t, s.point(c))
				}
				for _, x := range []*pair{m, a, b, c} {
					x.finish(t)
				}
			}
		}
	}
}

// TestCloneAhead: P14.3: what the one has been told is not seen by the other, told by hand.
func TestCloneAhead(t *testing.T) {
	f := nextOf(from(0, 2), "x").must(t)
	fresh := f.Clone()
	come := []told{one(3, xs(1))}
	run(t, f, come...)
	c := f.Clone()
	goOn(t, f, come, one(4, xs(2), xs(2)), one(9, xs(), xs()))
	goOn(t, c, come, one(3, xs(7), xs(7)), one(3, xs(8), xs(8)))
	run(t, fresh, one(0, xs(5)), one(1, xs(6), xs(6)))

	f = notUntilOf(from(0, 4), "x", "x").must(t)
	fresh = f.Clone()
	come = []told{two(0, xs(), xs(1)), two(2, xs(), xs(1, 2))}
	run(t, f, come...)
	c = f.Clone()
	goOn(t, f, come, two(3, xs(2), xs(3)), two(9, xs(), xs(), xs(1, 2, 3), xs(1, 2, 3), xs(3)))
	goOn(t, c, come, two(2, xs(3), xs()), two(4, xs(), xs(1, 3)), two(5, xs(), xs(), xs(1, 2)), two(20, xs(), xs(), xs(1, 2), xs(1), xs(1, 3), xs()))
	run(t, fresh, two(0, xs(), xs(9)), two(5, xs(), xs(), xs(9)))

	// One point settles many in the one, which still wait in the other.
	f = soonOf(from(1, 4), "x").must(t)
	come = []told{one(0, xs(1)), one(1, xs(2)), one(2, xs(3))}
	run(t, f, come...)
	c = f.Clone()
	goOn(t, f, come, one(7, xs(9), xs(2, 3), xs(3), xs()))
	goOn(t, c, come, one(4, xs(4)), one(5, xs(5), xs(2, 3, 4)), one(20, xs(), xs(3, 4, 5), xs(4, 5), xs(5), xs()))
}

// TestClonesAtOnce: P14.3, R5: clones that are told points at the same time do not meet in what they share.
func TestClonesAtOnce(t *testing.T) {
	for _, o := range operators(from(0, 5)) {
		s := stream(61)
		m := newPair(t, o)
		for range 12 {
			m.step(t, s.rare(o, m.ahead()+int64(s.below(2))))
		}
		var all sync.WaitGroup
		for k := range 4 {
			c, own := m.clone(), stream(71+k)
			all.Go(func() {
				for range 60 {
					x := own.rare(o, c.ahead()+int64(own.below(3)))
					want := c.wants(x)
					if got, e := c.f.Step(x.time, x.tables); e != api.OK || !allAlike(got, want) {
						t.Errorf("%v: %v, %d, not %v", o, got, e, want)
						return
					}
				}
			})
		}
		all.Wait()
	}
}

// roomy is a table whose lists have room behind them, and all of what stands in them and in that room.
func roomy(x api.Table) (api.Table, func() string) {
	vars := append(slices.Clone(x.Vars), "behind", "too")
	from := append(slices.Clone(x.Rows), nil, row(num(99)))
	var kept [][]api.Value
	for i, r := range x.Rows {
		all := append(slices.Clone(r), num(98), num(97))
		kept = append(kept, all)
		from[i] = all[:len(r)]
	}
	whole := func() string { return tell(vars, from, kept) }
	return api.Table{Vars: vars[:len(x.Vars)], Rows: from[:len(x.Rows)]}, whole
}

func tell(vars []string, lists ...[][]api.Value) string {
	var b strings.Builder
	b.WriteString(strings.Join(vars, ","))
	for _, rows := range lists {
		for _, r := range rows {
			b.WriteString(";")
			for _, v := range r {
				s, _ := value.Print(v)
				b.WriteString(s + " ")
			}
		}
	}
	return b.String()
}

// mark is what spoil writes at a place of a row of a table of an answer.
func mark(n, i, k int) api.Value {
	return api.Value{Kind: n, N: int64(i), D: int64(k), S: "written"}
}

// spoil writes into each list of some tables, and into the room behind it, and sees that no two of them are one.
func spoil(t *testing.T, l ...api.Table) {
	t.Helper()
	for n, x := range l {
		for i, r := range x.Rows {
			for k := range r[:cap(r)] {
				r[:cap(r)][k] = mark(n, i, k)
			}
		}
	}
	for n, x := range l {
		for i, r := range x.Rows {
			for k, v := range r[:cap(r)] {
				if v != mark(n, i, k) {
					t.Error("two rows share room")
				}
			}
		}
	}
	for n, x := range l {
		for i := range x.Rows[:cap(x.Rows)] {
			x.Rows[:cap(x.Rows)][i] = row(mark(n, i, 0))
		}
		for i := range x.Vars[:cap(x.Vars)] {
			x.Vars[:cap(x.Vars)][i] = strings.Repeat("v", n)
		}
	}
	for n, x := range l {
		for i, r := range x.Rows[:cap(x.Rows)] {
			if r[0] != mark(n, i, 0) {
				t.Error("two lists of rows share room")
			}
		}
		for _, v := range x.Vars[:cap(x.Vars)] {
			if v != strings.Repeat("v", n) {
				t.Error("two lists of variables share room")
			}
		}
	}
}

// spoilAll is spoil of all tables of an answer, and writes over the answer itself.
func spoilAll(t *testing.T, l []api.Verdict) {
	t.Helper()
	var tables []api.Table
	for _, v := range l {
		tables = append(tables, v.Table)
	}
	spoil(t, tables...)
	all := l[:cap(l)]
	for i := range all {
		all[i] = api.Verdict{At: -1, Time: -1}
	}
}

// rooms are tables with room behind them, and what tells whether all of them are as they were.
func rooms(l []api.Table) ([]api.Table, func() bool) {
	var to []api.Table
	var wholes []func() string
	var before []string
	for _, from := range l {
		t, whole := roomy(from)
		to, wholes, before = append(to, t), append(wholes, whole), append(before, whole())
	}
	return to, func() bool {
		return slices.EqualFunc(wholes, before, func(whole func() string, was string) bool { return whole() == was })
	}
}

// TestMemory: rule R4: what is handed in stays as it is, and may be written over behind the call; what is told is the caller's own.
func TestMemory(t *testing.T) {
	s := stream(31)
	for range 600 {
		o := s.operator()
		o.i = pick(&s, o.i, from(0, 0), from(0, 3), from(1, 9), from(0, 60))
		left, right := append(slices.Clone(o.left), "behind"), append(slices.Clone(o.right), "behind")
		whole := tell(left) + tell(right)
		told := o
		told.left, told.right = left[:len(o.left)], right[:len(o.right)]
		m := &pair{operator: o, f: told.must(t)}
		if tell(left)+tell(right) != whole {
			t.Fatalf("the variables of %v were changed", o)
		}
		for i := range left {
			left[i] = "written"
		}
		for i := range right {
			right[i] = "written"
		}
		for range 20 {
			x := s.point(m)
			want := m.wants(x)
			handed, unchanged := rooms(x.tables)
			c := m.f.Clone()
			for _, f := range []*future.Future{m.f, c} {
				got, e := f.Step(x.time, handed)
				if e != api.OK || !allAlike(got, want) {
					t.Fatalf("%v, told %v: %v, %d, not %v", o, m.log, got, e, want)
				}
				spoilAll(t, got)
			}
			if !unchanged() {
				t.Fatalf("%v: what was handed in was changed", o)
			}
			spoil(t, handed...)
			clear(handed)
			m.f = pick(&s, m.f, c)
		}
	}
}

// TestOneAnswer: rule R5: the same told again, the same answers, in whatever order rows are gone through within.
func TestOneAnswer(t *testing.T) {
	s := stream(37)
	for range 40 {
		o := s.operator()
		m := newPair(t, o)
		var wants [][]api.Verdict
		for range 25 {
			x := s.point(m)
			m.log = append(m.log, x)
			got, _ := m.f.Step(x.time, x.tables)
			wants = append(wants, got)
		}
		for range 4 {
			f, n := o.must(t), 0
			for i, x := range m.log {
				n += len(wants[i])
				step(t, f, x, wants[i], api.OK, i+1-n)
			}
		}
	}
}
