package past_test

import (
	"runtime"
	"slices"
	"testing"

	"custos/api"
	"custos/past"
	"custos/table"
	"custos/value"
)

// TestOnceIsSince: P13.4: Once is Since, not, of a left part without variables that is always false.
func TestOnceIsSince(t *testing.T) {
	s := stream(41)
	for range 400 {
		o := s.operator()
		o.kind, o.left = once, nil
		as := operator{since, o.i, true, nil, o.right}
		m, p := newPair(t, o), as.must(t)
		for range 40 {
			x := s.point(m)
			m.log = append(m.log, x)
			want, e := m.p.Step(x.time, x.tables)
			step(t, p, at(x.time, no(), x.tables[0]), want, e)
		}
	}
}

// TestSinceHasRight: P13.4: of an interval from 0 on it has all rows of right, whatever left is.
func TestSinceHasRight(t *testing.T) {
	s := stream(43)
	for range 400 {
		o := s.operator()
		if o.kind != since {
			continue
		}
		o.i = pick(&s, open(0), from(0, 0), from(0, 3), from(0, last))
		m := newPair(t, o)
		for range 40 {
			x := s.point(m)
			m.log = append(m.log, x)
			got, e := m.p.Step(x.time, x.tables)
			missing, f := table.Minus(x.tables[1], got)
			if e != api.OK || f != api.OK || len(missing.Rows) != 0 {
				t.Fatalf("%v: %v, %d, is without %v", o, got, e, missing)
			}
		}
	}
}

// TestSinceNewRows: P13.4: with an Open interval from 0 on, what it has newly is right's.
func TestSinceNewRows(t *testing.T) {
	s := stream(47)
	for range 400 {
		o := s.operator()
		if o.kind != since {
			continue
		}
		o.i = open(0)
		m := newPair(t, o)
		ahead, _ := table.Empty(o.right)
		for range 40 {
			x := s.point(m)
			m.log = append(m.log, x)
			got, e := m.p.Step(x.time, x.tables)
			newly, f := table.Minus(got, ahead)
			strange, g := table.Minus(newly, x.tables[1])
			if e != api.OK || f != api.OK || g != api.OK || len(strange.Rows) != 0 {
				t.Fatalf("%v: %v, %d, has newly %v", o, got, e, strange)
			}
			ahead = got
		}
	}
}

// TestGreat: rule R6: tables of 2^16 rows, all told, half of them let go, all of them too old.
func TestGreat(t *testing.T) {
	const n = 1 << 16
	all, even, odd, keys := ints("xy"), ints("xy"), ints("xy"), ints("y", 0)
	for i := range int64(n) {
		r := row(num(i), num(i%2))
		all.Rows = append(all.Rows, r)
		if i%2 == 0 {
			even.Rows = append(even.Rows, r)
		} else {
			odd.Rows = append(odd.Rows, r)
		}
	}
	none := ints("xy")
	run(t, prevOf(from(0, 1), "xy").must(t), one(0, all, none), one(1, none, all), one(2, all, none))
	run(t, onceOf(from(0, 1), "xy").must(t), one(0, even, even), one(1, odd, all), one(2, none, odd), one(3, none, none))
	run(t, sinceOf(from(0, 3), "y", "xy").must(t), two(0, keys, all, all), two(1, keys, none, even), two(4, keys, none, none))
	run(t, notSinceOf(from(0, 3), "y", "xy").must(t), two(0, keys, all, all), two(1, keys, none, odd), two(4, keys, none, none))
	run(t, sinceOf(from(1, 3), "xy", "xy").must(t), two(0, none, all, none), two(1, odd, all, odd), two(2, all, none, all))
	run(t, notSinceOf(from(1, 3), "xy", "xy").must(t), two(0, none, all, none), two(1, odd, all, even), two(2, none, none, all))
}

// TestManyWait: rule R6: each of many points has a row that waits long; it would take long, were all of them gone through at each point.
func TestManyWait(t *testing.T) {
	const n = 1 << 16
	i := from(n, n+1)
	all, carried, spared := onceOf(i, "x").must(t), sinceOf(i, "", "x").must(t), notSinceOf(i, "x", "x").must(t)
	for now := range int64(2 * n) {
		want, young := xs(), xs()
		if now > n {
			want = xs(now-n-1, now-n)
		}
		if now >= n {
			young = xs(now - n)
		}
		if now == n {
			want = young
		}
		step(t, all, at(now, xs(now)), want, api.OK)
		step(t, carried, at(now, yes(), xs(now)), want, api.OK)
		// The older one of the two that would be told is let go.
		step(t, spared, at(now, xs(now-n-1), xs(now)), young, api.OK)
	}
}

// heap is how much is held when all that can go has gone.
func heap() int64 {
	runtime.GC()
	var m runtime.MemStats
	runtime.ReadMemStats(&m)
	return int64(m.HeapAlloc)
}

// hoard is points by their numbers, and an operator that must keep little of them.
type hoard struct {
	name  string
	o     operator
	times func(i int64) int64
	left  func(i int64) api.Table // nil, where there is no left part
	right func(i int64) api.Table
}

func (h hoard) point(i int64) point {
	if h.left == nil {
		return at(h.times(i), h.right(i))
	}
	return at(h.times(i), h.left(i), h.right(i))
}

// grown is how much more is held behind n points than behind the first one; a clone goes on now and then, if that is asked.
func (h hoard) grown(t *testing.T, n int64, clones bool) int64 {
	p, before := h.o.must(t), int64(0)
	for i := range n {
		x := h.point(i)
		if _, e := p.Step(x.time, x.tables); e != api.OK {
			t.Fatal(i, e)
		}
		if clones && i%3 == 0 {
			p = p.Clone()
		}
		if i == 0 {
			before = heap()
		}
	}
	after := heap()
	runtime.KeepAlive(p)
	return after - before
}

// TestKeepsLittle: what can't be told any more, or would be told alike without it, is not kept, nor by a clone.
func TestKeepsLittle(t *testing.T) {
	const n = 30000
	none, same, other := func(int64) api.Table { return xs() }, func(int64) api.Table { return xs(1) }, func(i int64) api.Table { return xs(i) }
	next, ahead := func(i int64) api.Table { return xs(i, i+1) }, func(i int64) api.Table { return xs(i - 1) }
	still, rising := func(int64) int64 { return 7 }, func(i int64) int64 { return i }
	// Many rows come at first and wait, so that a few that are let go are not worth looking for.
	crowd := func(i int64) api.Table {
		x := xs()
		for k := range 60 * max(0, 1-i) {
			x.Rows = append(x.Rows, row(num(k-1000)))
		}
		x.Rows = append(x.Rows, row(num(i)))
		return x
	}
	apart, late := func(i int64) int64 { return 3 * i }, func(i int64) int64 { return i + 1 }
	for _, c := range []hoard{
		{"prev", prevOf(open(0), "x"), rising, nil, other},
		{"once, too old", onceOf(from(0, 2), "x"), rising, nil, other},
		{"once, too old, seldom told", onceOf(from(2, 2), "x"), apart, nil, other},
		{"once, the same at one time", onceOf(open(5), "x"), still, nil, same},
		{"once, the same again and again", onceOf(open(n), "x"), rising, nil, same},
		{"once, the same, in a far while", onceOf(from(n, n), "x"), rising, nil, same},
		{"once, the same, with times between", onceOf(from(0, 0), "x"), apart, nil, same},
		{"once, the same, told and to be told", onceOf(from(3, 4), "x"), apart, nil, same},
		{"once, at no time that may be", onceOf(from(last, last), "x"), late, nil, other},
		{"since, let go while told", sinceOf(open(0), "x", "x"), rising, other, next},
		{"since, let go while it waits", sinceOf(open(n), "x", "x"), rising, other, next},
		{"since, not, too old", notSinceOf(from(0, 2), "x", "x"), rising, none, other},
		{"since, not, let go while it waits", notSinceOf(open(n), "x", "x"), rising, ahead, other},
		{"since, not, let go among many that wait", notSinceOf(open(n), "x", "x"), rising, ahead, crowd},
		{"since, not, let go and come again", notSinceOf(from(n, n), "x", "x"), still, same, same},
	} {
		for _, clones := range []bool{false, true} {
			if grown := c.grown(t, n, clones); grown > 1<<17 {
				t.Errorf("%s, clones %v: %d bytes more behind %d points", c.name, clones, grown, n)
			}
		}
	}
}

// TestKeepsNoOldRows: many rows that are too old at one time are let go of at that time, though nothing comes in their place.
func TestKeepsNoOldRows(t *testing.T) {
	const n = 1 << 16
	rows := func(i int64) api.Table {
		x := xs()
		for k := range n * (1 - i) {
			x.Rows = append(x.Rows, row(num(k)))
		}
		return x
	}
	for _, i := range []api.Interval{from(0, 9), from(1, 9), from(99, 99)} {
		p := onceOf(i, "x").must(t)
		before := heap()
		for k := range int64(2) {
			if got, e := p.Step(100*k, []api.Table{rows(k)}); e != api.OK || len(got.Rows) != 0 && i.Lo > 0 {
				t.Errorf("%v: %d rows, %d", i, len(got.Rows), e)
			}
		}
		if grown := heap() - before; grown > 4<<20 {
			t.Errorf("%v: %d bytes more, and nothing to tell", i, grown)
		}
		runtime.KeepAlive(p)
	}
}

// TestUnionOfPoints: P13.2: Once's table is the union of those at the points that count, by table's own Union.
func TestUnionOfPoints(t *testing.T) {
	s := stream(53)
	for range 200 {
		o := s.operator()
		o.kind = once
		p, _ := past.Once(o.i, o.right)
		m := &pair{operator: o, p: p}
		for range 30 {
			x := s.point(m)
			m.log = append(m.log, x)
			want, _ := table.Empty(o.right)
			for _, y := range m.log {
				if within(o.i, x.time-y.time) {
					want, _ = table.Union(want, y.tables[0])
				}
			}
			step(t, p, x, want, api.OK)
			if !slices.IsSortedFunc(want.Rows, value.CompareRow) {
				t.Fatal("rows that do not rise")
			}
		}
	}
}
