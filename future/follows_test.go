package future_test

import (
	"runtime"
	"testing"

	"custos/api"
	"custos/future"
	"custos/table"
)

// TestSoonIsUntil: P14.4: Soon is Until, not, of a left part without variables that is always false.
func TestSoonIsUntil(t *testing.T) {
	s := stream(41)
	for range 400 {
		o := s.operator()
		o.kind, o.left = soon, nil
		as := operator{until, o.i, true, nil, o.right}
		m, f := newPair(t, o), as.must(t)
		for range 40 {
			x := s.point(m)
			m.log = append(m.log, x)
			want, e := m.f.Step(x.time, x.tables)
			step(t, f, at(x.time, no(), x.tables[0]), want, e, m.f.Waits())
		}
	}
}

// TestToldOnce: P14.4: the points are told 0, 1, 2 .., each once, with their times, and all of them that are settled.
func TestToldOnce(t *testing.T) {
	s := stream(43)
	for range 400 {
		o := s.operator()
		m := newPair(t, o)
		told := 0
		for range 60 {
			x := s.point(m)
			m.log = append(m.log, x)
			got, e := m.f.Step(x.time, x.tables)
			if e != api.OK {
				t.Fatal(o, x, e)
			}
			for _, v := range got {
				if v.At != told || v.Time != m.log[told].time {
					t.Fatalf("%v: %d at %d is told, not %d at %d", o, v.At, v.Time, told, m.log[told].time)
				}
				told++
			}
			settled := 0
			for i := range m.log {
				if o.settled(m.log, i) {
					settled++
				}
			}
			if told != settled || m.f.Waits() != len(m.log)-settled {
				t.Fatalf("%v: %d told, %d settled of %d, %d wait", o, told, settled, len(m.log), m.f.Waits())
			}
		}
	}
}

// TestNotSooner: P14.4: a point waits up to its own time and Hi, however many come, and is told with the first time above that.
func TestNotSooner(t *testing.T) {
	for _, begin := range []int64{0, 1, 1000, last / 2} {
		for _, hi := range []int64{0, 1, 2, 50, last / 3} {
			for _, lo := range []int64{0, hi / 2, hi} {
				for _, o := range operators(from(lo, hi)) {
					m := newPair(t, o)
					empty := m.empties()
					if o.kind == next {
						step(t, m.f, point{begin, empty}, nil, api.OK, 1)
						step(t, m.f, point{begin, empty}, []api.Verdict{{At: 0, Time: begin, Table: xs()}}, api.OK, 1)
						step(t, m.f, point{last, empty}, []api.Verdict{{At: 1, Time: begin, Table: xs()}}, api.OK, 1)
						continue
					}
					for n, time := range []int64{begin, begin, begin + hi/2, begin + hi, begin + hi} {
						step(t, m.f, point{time, empty}, nil, api.OK, n+1)
					}
					want := []api.Verdict{{At: 0, Time: begin, Table: xs()}, {At: 1, Time: begin, Table: xs()}}
					if hi == 0 {
						want = append(want, api.Verdict{At: 2, Time: begin, Table: xs()}, api.Verdict{At: 3, Time: begin, Table: xs()}, api.Verdict{At: 4, Time: begin, Table: xs()})
					}
					if hi == 1 {
						want = append(want, api.Verdict{At: 2, Time: begin, Table: xs()})
					}
					step(t, m.f, point{begin + hi + 1, empty}, want, api.OK, 6-len(want))
				}
			}
		}
	}
}

// byTables is Until's table at a point, by table's own Join, Anti and Union.
func byTables(o operator, log []point, i int) api.Table {
	all, _ := table.Empty(o.right)
	for j := i; j < len(log); j++ {
		if !within(o.i, log[j].time-log[i].time) {
			continue
		}
		rows := log[j].tables[1]
		for _, x := range log[i:j] {
			if o.not {
				rows, _ = table.Anti(rows, x.tables[0])
			} else {
				rows, _ = table.Join(rows, x.tables[0])
			}
		}
		all, _ = table.Union(all, rows)
	}
	return all
}

// TestUnionOfPoints: P14.2: Until's table is the union of what left leaves of right's, told by the layer below.
func TestUnionOfPoints(t *testing.T) {
	s := stream(53)
	for range 300 {
		o := s.operator()
		if o.kind != until {
			continue
		}
		m := newPair(t, o)
		for range 30 {
			x := s.point(m)
			m.log = append(m.log, x)
			got, e := m.f.Step(x.time, x.tables)
			if e != api.OK {
				t.Fatal(o, x, e)
			}
			for _, v := range got {
				if want := byTables(o, m.log, v.At); !table.Same(v.Table, want) {
					t.Fatalf("%v, told %v: %v, not %v", o, m.log, v, want)
				}
			}
		}
	}
}

// TestGreat: rule R6: tables of 2^16 rows, all told, half of them let go, none of them told.
func TestGreat(t *testing.T) {
	const n = 1 << 16
	all, even, odd, keys := ints("xy"), ints("xy"), ints("xy"), ints("y", 0)
	for i := range int64(n) {
		r := row(num(i), num(i%2))
		all.Rows = append(all.Rows, r)
		if i%2 == 0 {
			even.Rows = append(even.Rows, r)
		} else {
			odd.Rows = append(odd.Rows, r)
		}
	}
	none := ints("xy")
	run(t, nextOf(from(0, 1), "xy").must(t), one(0, none), one(1, all, all), one(3, all, none))
	run(t, soonOf(from(0, 1), "xy").must(t), one(0, even), one(1, odd), one(2, none, all), one(3, none, odd))
	run(t, untilOf(from(0, 3), "y", "xy").must(t), two(0, keys, none), two(1, keys, all), two(9, keys, none, even, all))
	run(t, notUntilOf(from(0, 3), "y", "xy").must(t), two(0, keys, none), two(1, keys, all), two(9, keys, none, odd, all))
	run(t, untilOf(from(1, 3), "xy", "xy").must(t), two(0, odd, all), two(1, all, all), two(4, none, none, odd), two(9, none, none, none, none))
	run(t, notUntilOf(from(1, 3), "xy", "xy").must(t), two(0, odd, all), two(1, all, all), two(4, none, none, even), two(9, none, none, none, none))
}

// verdict is one of x.
func verdict(at, time int64, l ...int64) api.Verdict {
	return api.Verdict{At: int(at), Time: time, Table: xs(l...)}
}

// TestManyWait: rule R6: many points wait, and each has its own rows; it would take long, were all of them gone through at each point.
func TestManyWait(t *testing.T) {
	const n = 1 << 16
	i := from(n, n+1)
	all, held, spared := soonOf(i, "x").must(t), untilOf(i, "", "x").must(t), notUntilOf(i, "x", "x").must(t)
	for now := range int64(2 * n) {
		var want, less []api.Verdict
		waits := int(now) + 1
		if at := now - n - 2; at >= 0 {
			want = []api.Verdict{verdict(at, at, at+n, at+n+1)}
			less = []api.Verdict{verdict(at, at, at+n)}
			waits = n + 2
		}
		step(t, all, at(now, xs(now)), want, api.OK, waits)
		step(t, held, at(now, yes(), xs(now)), want, api.OK, waits)
		// Each point lets the later one of its two go.
		step(t, spared, at(now, xs(now+n+1), xs(now)), less, api.OK, waits)
	}
}

// TestOneSettlesMany: rule R6: many points have the same row, which comes at each of them, and all are told at once.
func TestOneSettlesMany(t *testing.T) {
	const n = 1 << 16
	for _, rise := range []int64{0, 1} {
		i := from(0, n)
		all, held, spared := soonOf(i, "x").must(t), untilOf(i, "x", "x").must(t), notUntilOf(i, "x", "x").must(t)
		var want []api.Verdict
		for k := range int64(n) {
			step(t, all, at(k*rise, xs(1)), nil, api.OK, int(k)+1)
			step(t, held, at(k*rise, xs(1), xs(1)), nil, api.OK, int(k)+1)
			step(t, spared, at(k*rise, xs(2), xs(1)), nil, api.OK, int(k)+1)
			want = append(want, verdict(k, k*rise, 1))
		}
		step(t, all, at(last, xs(2)), want, api.OK, 1)
		step(t, held, at(last, xs(1), xs(1)), want, api.OK, 1)
		step(t, spared, at(last, xs(), xs(1)), want, api.OK, 1)
	}
}

// heap is how much is held when all that can go has gone.
func heap() int64 {
	runtime.GC()
	var m runtime.MemStats
	runtime.ReadMemStats(&m)
	return int64(m.HeapAlloc)
}

// hoard is points by their numbers, and an operator that must keep little of them.
type hoard struct {
	name  string
	o     operator
	times func(i int64) int64
	left  func(i int64) api.Table // nil, where there is no left part
	right func(i int64) api.Table
}

func (h hoard) point(i int64) point {
	if h.left == nil {
		return at(h.times(i), h.right(i))
	}
	return at(h.times(i), h.left(i), h.right(i))
}

// grown is how much more is held behind n points than behind the first one; a clone goes on now and then, if that is asked.
func (h hoard) grown(t *testing.T, n int64, clones bool) int64 {
	f, before := h.o.must(t), int64(0)
	for i := range n {
		x := h.point(i)
		if _, e := f.Step(x.time, x.tables); e != api.OK {
			t.Fatal(i, e)
		}
		if clones && i%3 == 0 {
			f = f.Clone()
		}
		if i == 0 {
			before = heap()
		}
	}
	after := heap()
	runtime.KeepAlive(f)
	return after - before
}

// TestKeepsLittle: what can't be told any more is not kept, nor by a clone.
func TestKeepsLittle(t *testing.T) {
	const n = 30000
	same, other := func(int64) api.Table { return xs(1) }, func(i int64) api.Table { return xs(i) }
	pairs := func(i int64) api.Table { return xs(i, i+1) }
	still, rising, apart := func(int64) int64 { return last }, func(i int64) int64 { return i + 1 }, func(i int64) int64 { return 3 * i }
	for _, c := range []hoard{
		{"next", nextOf(from(0, last), "x"), rising, nil, other},
		{"soon", soonOf(from(0, 2), "x"), rising, nil, other},
		{"soon, the same again and again", soonOf(from(0, 9), "x"), rising, nil, same},
		{"soon, the same now and then", soonOf(from(0, 1), "x"), apart, nil, same},
		{"soon, within none", soonOf(from(1, 2), "x"), apart, nil, other},
		{"soon, no time is above", soonOf(from(0, last-1), "x"), rising, nil, other},
		{"soon, at MaxTime", soonOf(from(0, 0), "x"), still, nil, other},
		{"until", untilOf(from(0, 3), "x", "x"), rising, pairs, other},
		{"until, the same again and again", untilOf(from(1, 3), "x", "x"), rising, same, same},
		{"until, no time is above", untilOf(from(0, last-1), "x", "x"), rising, same, other},
		{"until, not", notUntilOf(from(0, 3), "x", "x"), rising, pairs, other},
		{"until, not, let go by all", notUntilOf(from(1, 3), "x", "x"), rising, same, same},
		{"until, not, no time is above", notUntilOf(from(0, last-1), "x", "x"), rising, other, other},
	} {
		for _, clones := range []bool{false, true} {
			if grown := c.grown(t, n, clones); grown > 1<<17 {
				t.Errorf("%s, clones %v: %d bytes more behind %d points", c.name, clones, grown, n)
			}
		}
	}
}

// TestKeepsNoOldRows: many rows of points that are told at one time are let go of at that time, though nothing comes in their place.
func TestKeepsNoOldRows(t *testing.T) {
	const n = 1 << 16
	rows := func(many bool) api.Table {
		x := xs()
		for k := range int64(n) {
			if many {
				x.Rows = append(x.Rows, row(num(k)))
			}
		}
		return x
	}
	tell := func(f *future.Future, o operator, time int64, many bool) {
		tables := []api.Table{rows(many), rows(many)}
		if o.kind != until {
			tables = tables[1:]
		}
		if _, e := f.Step(time, tables); e != api.OK {
			t.Fatal(o, time, e)
		}
	}
	for _, i := range []api.Interval{from(0, 9), from(1, 9), from(0, last/2)} {
		for _, o := range operators(i) {
			f := o.must(t)
			before := heap()
			tell(f, o, 0, true)
			tell(f, o, 1, true)
			tell(f, o, 2, false)
			tell(f, o, last, false)
			if grown := heap() - before; grown > 4<<20 {
				t.Errorf("%v: %d bytes more, and nothing to tell", o, grown)
			}
			runtime.KeepAlive(f)
		}
	}
}

// TestKeepsOneOfMany: rows that come at many points which wait, of right and of left, stand there once.
func TestKeepsOneOfMany(t *testing.T) {
	const n, size = 2000, 300
	many, others := xs(), xs()
	for k := range int64(size) {
		many.Rows = append(many.Rows, row(num(k)))
		others.Rows = append(others.Rows, row(num(k+size)))
	}
	told := func(o operator, tables ...api.Table) {
		f := o.must(t)
		before := heap()
		for time := range int64(n) {
			if _, e := f.Step(time, tables); e != api.OK {
				t.Fatal(o, time, e)
			}
		}
		if grown := heap() - before; grown > 4<<20 {
			t.Errorf("%v: %d bytes more for %d points with the same rows", o, grown, n)
		}
		runtime.KeepAlive(f)
	}
	for _, i := range []api.Interval{from(0, 2*n), from(n/2, 2*n)} {
		told(soonOf(i, "x"), many)
		// Left carries all rows, or lets all of them go at each point.
		for _, o := range []operator{untilOf(i, "x", "x"), notUntilOf(i, "x", "x")} {
			told(o, many, many)
			told(o, others, many)
		}
	}
}
