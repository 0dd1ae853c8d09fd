package match_test

import (
	"runtime"
	"slices"
	"testing"

	"custos/api"
	"custos/future"
	"custos/match"
	"custos/past"
)

// TestTestHere: P15.5: Before [0,0] of (test g) is g's table; so it is at every other interval from 0 on, and with After.
func TestTestHere(t *testing.T) {
	s := stream(41)
	for range 200 {
		g := &maker{s: &s, all: letters("abcdefgh")}
		vars := g.some(pick(&s, 0, 1, 2, 3, 8))
		r := g.test(vars)
		here, long, ahead := operator{false, from(0, 0), r}.must(t), operator{false, open(0), r}.must(t), operator{true, from(0, 0), r}.must(t)
		var before []api.Verdict
		for n := range 20 {
			x := point{int64(n), []api.Table{s.table(vars, 6)}}
			want := []api.Verdict{{At: n, Time: x.time, Table: x.tests[0]}}
			step(t, here, x, want, api.OK, 0)
			step(t, long, x, want, api.OK, 0)
			step(t, ahead, x, before, api.OK, 1)
			before = want
		}
	}
}

// looking is a table that another layer tells at the point that has come.
type looking func(x point) (api.Table, api.Errno)

// sameAs sees that Before tells at each point what another layer does. Its tests are of the variables told.
func sameAs(t *testing.T, s *stream, o operator, other looking) {
	t.Helper()
	p := newPair(t, o)
	for n := range 50 {
		x := s.point(p)
		p.log = append(p.log, x)
		want, e := other(x)
		if e != api.OK {
			t.Fatal(o, e)
		}
		step(t, p.m, x, []api.Verdict{{At: n, Time: x.time, Table: want}}, api.OK, 0)
	}
}

// TestOnce: P15.5: Before [0,*] of (seq (test g) (star any)) is what Once [0,*] of g is; so it is at all intervals.
func TestOnce(t *testing.T) {
	s := stream(43)
	for n := range 400 {
		g := &maker{s: &s, all: letters("abcdefgh")}
		vars := g.some(pick(&s, 0, 1, 2, 3, 8))
		o := operator{false, s.interval(false), part(api.Seq, g.test(vars), regex("(star any)"))}
		if n%2 == 0 {
			o.i = open(0)
		}
		once, e := past.Once(o.i, vars)
		if e != api.OK {
			t.Fatal(e)
		}
		sameAs(t, &s, o, func(x point) (api.Table, api.Errno) { return once.Step(x.time, x.tests) })
	}
}

// TestSince: P15.3: Before of (seq (test h) (star (seq any (test c)))), c closed, is what Since of c and h is; (seq any (test c)) ahead of it is Prev's.
func TestSince(t *testing.T) {
	s := stream(45)
	for range 400 {
		g := &maker{s: &s, all: letters("abcdefgh")}
		vars := g.some(pick(&s, 0, 1, 2, 3, 8))
		o := operator{false, s.interval(false), part(api.Seq, g.test(vars), regex("(star (seq any c.))"))}
		since, e := past.Since(o.i, false, nil, vars)
		if e != api.OK {
			t.Fatal(e)
		}
		sameAs(t, &s, o, func(x point) (api.Table, api.Errno) {
			return since.Step(x.time, []api.Table{x.tests[1], x.tests[0]})
		})
		o.r = part(api.Seq, g.test(vars), regex("any"))
		prev, e := past.Prev(o.i, vars)
		if e != api.OK {
			t.Fatal(e)
		}
		sameAs(t, &s, o, func(x point) (api.Table, api.Errno) { return prev.Step(x.time, x.tests) })
	}
}

// TestNext: P15.5: After [0,Hi] of (seq any (test g)) is what Next [0,Hi] of g is, as long as the next point is within Hi.
func TestNext(t *testing.T) {
	s := stream(47)
	within := 0
	for range 400 {
		g := &maker{s: &s, all: letters("abcdefgh")}
		vars := g.some(pick(&s, 0, 1, 2, 3, 8))
		o := operator{true, from(0, int64(s.below(6))), part(api.Seq, regex("any"), g.test(vars))}
		next, e := future.Next(o.i, vars)
		if e != api.OK {
			t.Fatal(e)
		}
		p := newPair(t, o)
		var got, wants []api.Verdict
		for range 50 {
			x := s.point(p)
			p.log = append(p.log, x)
			l, e := p.m.Step(x.time, x.tests)
			m, f := next.Step(x.time, x.tests)
			if e != api.OK || f != api.OK {
				t.Fatal(o, e, f)
			}
			got, wants = append(got, l...), append(wants, m...)
		}
		for i, v := range got {
			if p.log[i+1].time-p.log[i].time > o.i.Hi {
				continue
			}
			within++
			if !allAlike([]api.Verdict{v}, wants[i:i+1]) {
				t.Fatalf("%v, told %v: %v, not %v", o, p.log, v, wants[i])
			}
		}
	}
	if within < 1000 {
		t.Errorf("%d points were within", within)
	}
}

// TestSoon: P15.3: After of (seq (star any) (test g)) is what Soon of g is; of (seq (star (seq (test c) any)) (test h)), c closed, Until of c and h.
func TestSoon(t *testing.T) {
	s := stream(49)
	for range 400 {
		g := &maker{s: &s, all: letters("abcdefgh")}
		vars := g.some(pick(&s, 0, 1, 2, 3, 8))
		i := s.interval(true)
		soon, e := future.Soon(i, vars)
		until, f := future.Until(i, false, nil, vars)
		if e != api.OK || f != api.OK {
			t.Fatal(e, f)
		}
		p := newPair(t, operator{true, i, part(api.Seq, regex("(star (seq c. any))"), g.test(vars))})
		m := operator{true, i, part(api.Seq, regex("(star any)"), g.test(vars))}.must(t)
		for range 50 {
			x := s.point(p)
			p.log = append(p.log, x)
			want, e := until.Step(x.time, x.tests)
			step(t, p.m, x, want, e, until.Waits())
			want, e = soon.Step(x.time, x.tests[1:])
			step(t, m, point{x.time, x.tests[1:]}, want, e, soon.Waits())
		}
	}
}

// TestGreat: rule R6: tables of 2^16 rows.
func TestGreat(t *testing.T) {
	const n = 1 << 16
	all, even := xs(), xs()
	for i := range int64(n) {
		all.Rows = append(all.Rows, row(num(i)))
		if i%2 == 0 {
			even.Rows = append(even.Rows, row(num(i)))
		}
	}
	run(t, before(from(0, 1), "(seq p. (seq (star any) q.))").must(t), at(0, all, even).tells(even), at(1, even, all).tells(all), at(2, xs(), all).tells(even))
	run(t, after(from(0, 1), "(seq p. (seq (star any) q.))").must(t), at(0, all, xs()).tells(), at(1, even, even).tells(), at(9, xs(), xs()).tells(even, even))
	run(t, before(open(0), "(seq (star any) (seq p. (star any)))").must(t), at(0, even).tells(even), at(1, all).tells(all), at(9, xs()).tells(all))
}

// TestGreatApart: rule R6: no table is made that the meaning of a regex does not make: each x with each y would be 2^32 rows.
func TestGreatApart(t *testing.T) {
	const n = 1 << 16
	x, y, none := xs(), ints("y"), ints("y")
	for i := range int64(n) {
		x.Rows = append(x.Rows, row(num(i)))
		y.Rows = append(y.Rows, row(num(i)))
	}
	some, empty := ints("xy", 0, 5, 7, n-1, n-1, 0, n, 3), ints("xy")
	want := ints("xy", 0, 5, 7, n-1, n-1, 0)
	for _, text := range []string{"(seq p. (seq any (seq py (seq any pxy))))", "(seq p. (seq any (seq py (seq (star any) pxy))))", "(seq p. (seq (star any) (seq py (seq any pxy))))", "(seq p. (seq any (alt (seq py (seq any pxy)) pxy)))"} {
		l := [][]api.Table{{x, none, empty}, {xs(), y, empty}, {xs(), none, some}, {xs(), none, empty}}
		m, a := before(from(0, 2), text).must(t), after(from(0, 2), text).must(t)
		if len(match.Tests(before(from(0, 2), text).r)) == 4 {
			for i := range l {
				l[i] = append(l[i], empty)
			}
		}
		run(t, m, at(0, l[0]...).tells(empty), at(1, l[1]...).tells(empty), at(2, l[2]...).tells(want), at(3, l[3]...).tells(empty))
		run(t, a, at(0, l[0]...).tells(), at(1, l[1]...).tells(), at(2, l[2]...).tells(), at(9, l[3]...).tells(want, empty, empty))
	}
	// All at one point, and a match that fails at its last step, which would have had all pairs.
	run(t, before(open(0), "(seq p. (seq py pxy))").must(t), at(0, x, y, some).tells(want))
	run(t, before(open(0), "(seq p. (seq py c.))").must(t), at(0, x, y, no()).tells(empty), at(1, xs(3), ints("y", 4), yes()).tells(ints("xy", 3, 4)))
	run(t, before(open(0), "(seq p. (seq py (seq any c.)))").must(t), at(0, x, y, no()).tells(empty), at(1, xs(3), ints("y", 4), no()).tells(empty), at(2, xs(), ints("y"), yes()).tells(ints("xy", 3, 4)))
}

// TestManyPoints: rule R6: many points, of which each has a row of its own, or all have the same ones.
func TestManyPoints(t *testing.T) {
	const n = 1 << 12
	for _, i := range []api.Interval{open(0), from(0, 3), from(2, n), from(n/2, n), open(n / 2)} {
		kept, ever := before(i, "(seq p. (seq (star any) q.))").must(t), before(i, "(seq (star any) (seq p. (star any)))").must(t)
		for now := range int64(n) {
			var want []int64
			if at := now - i.Lo; at >= 0 {
				want = []int64{at}
			}
			step(t, kept, at(now, xs(now), xs(now-i.Lo, now+1)), []api.Verdict{{At: int(now), Time: now, Table: xs(want...)}}, api.OK, 0)
			ones := xs()
			if now >= i.Lo {
				ones = xs(1)
			}
			step(t, ever, at(now, xs(1)), []api.Verdict{{At: int(now), Time: now, Table: ones}}, api.OK, 0)
		}
	}
}

// TestManyWait: rule R6: many points wait, and each has its own rows.
func TestManyWait(t *testing.T) {
	const n = 1 << 12
	m := after(from(n, n+1), "(seq (star any) p.)").must(t)
	for now := range int64(2 * n) {
		var want []api.Verdict
		waits := int(now) + 1
		if at := now - n - 2; at >= 0 {
			want = []api.Verdict{{At: int(at), Time: at, Table: xs(at+n, at+n+1)}}
			waits = n + 2
		}
		step(t, m, at(now, xs(now)), want, api.OK, waits)
	}
}

// TestOneSettlesMany: rule R6: many points have the same row, which comes at each of them, and all are told at once.
func TestOneSettlesMany(t *testing.T) {
	const n = 1 << 16
	for _, rise := range []int64{0, 1} {
		m := after(from(0, n), "(seq p. (star any))").must(t)
		var want []api.Verdict
		for k := range int64(n) {
			step(t, m, at(k*rise, xs(1)), nil, api.OK, int(k)+1)
			want = append(want, api.Verdict{At: int(k), Time: k * rise, Table: xs(1)})
		}
		step(t, m, at(last, xs(2)), want, api.OK, 1)
	}
}

// heap is how much is held when all that can go has gone.
func heap() int64 {
	runtime.GC()
	var m runtime.MemStats
	runtime.ReadMemStats(&m)
	return int64(m.HeapAlloc)
}

// hoard is points by their numbers, and an operator that must keep little of them.
type hoard struct {
	name  string
	o     operator
	times func(i int64) int64
	tests []func(i int64) api.Table
}

// grown is how much more is held behind n points than behind the first one; a clone goes on now and then, if that is asked.
func (h hoard) grown(t *testing.T, n int64, clones bool) int64 {
	m, before := h.o.must(t), int64(0)
	for i := range n {
		x := point{time: h.times(i)}
		for _, f := range h.tests {
			x.tests = append(x.tests, f(i))
		}
		if _, e := m.Step(x.time, x.tests); e != api.OK {
			t.Fatal(i, e)
		}
		if clones && i%3 == 0 {
			m = m.Clone()
		}
		if i == 0 {
			before = heap()
		}
	}
	after := heap()
	runtime.KeepAlive(m)
	return after - before
}

// TestKeepsLittle: what can't be told any more is not kept, nor by a clone.
func TestKeepsLittle(t *testing.T) {
	const n = 20000
	same, other, none := func(int64) api.Table { return xs(1) }, func(i int64) api.Table { return xs(i) }, func(int64) api.Table { return xs() }
	ys, xy := func(int64) api.Table { return ints("y", 1) }, func(int64) api.Table { return ints("xy") }
	now, rising, apart := func(int64) int64 { return last }, func(i int64) int64 { return i + 1 }, func(i int64) int64 { return 5 * i }
	type tests = []func(int64) api.Table
	for _, c := range []hoard{
		{"a test", before(open(0), "p."), rising, tests{other}},
		{"a step", before(open(0), "(seq p. any)"), rising, tests{other}},
		{"the same, for ever", before(open(0), "(seq p. (star any))"), rising, tests{same}},
		{"the same, from a time on", before(open(4), "(seq p. (star any))"), rising, tests{same}},
		{"the same, every other point", before(open(0), "(seq p. (star (seq any any)))"), rising, tests{same}},
		{"points alone", before(open(0), "(star any)"), rising, nil},
		{"points alone, from a time on", before(from(3, 9), "(star any)"), rising, nil},
		{"too old", before(from(0, 4), "(seq p. (star any))"), rising, tests{other}},
		{"too old at once", before(from(0, 4), "(seq p. (star any))"), apart, tests{other}},
		{"never old enough", before(from(2, 3), "(seq p. (star any))"), now, tests{other}},
		{"never old enough, open", before(open(last), "(seq p. (star any))"), rising, tests{other}},
		{"with rows that wait", before(from(0, 4), "(seq p. (seq any (seq py (seq (star any) pxy))))"), rising, tests{other, ys, xy}},
		{"with rows that wait for nothing", before(open(0), "(seq p. (seq any (seq py (seq any pxy))))"), rising, tests{other, ys, xy}},
		{"with rows for which nothing begins", before(open(0), "(seq p. (seq any (seq (test (q x y)) (seq (star any) pxy))))"), rising, tests{other, xy, xy}},
		{"after", after(from(0, 4), "(seq p. (star any))"), rising, tests{other}},
		{"after, at once", after(from(0, 4), "(seq p. (star any))"), apart, tests{other}},
		{"after, the same", after(from(0, 4), "(seq (star any) p.)"), rising, tests{same}},
		{"after, never within", after(from(6, 7), "(seq p. (star any))"), apart, tests{other}},
		{"after, no time is above", after(from(0, last-1), "(seq any (seq p. any))"), rising, tests{other}},
		{"after, no time is above any", after(from(0, last), "(seq p. (star any))"), rising, tests{other}},
		{"after, at MaxTime", after(from(0, 0), "(seq p. (star any))"), now, tests{other}},
		{"after, with rows that wait", after(from(0, 4), "(seq p. (seq any (seq py (seq (star any) pxy))))"), rising, tests{other, ys, xy}},
		{"no rows", before(open(0), "(seq p. (star any))"), rising, tests{none}},
	} {
		for _, clones := range []bool{false, true} {
			if grown := c.grown(t, n, clones); grown > 1<<17 {
				t.Errorf("%s, clones %v: %d bytes more behind %d points", c.name, clones, grown, n)
			}
		}
	}
}

// TestKeepsNoOldRows: many rows are let go of as soon as no point can be told them, though nothing comes in their place.
func TestKeepsNoOldRows(t *testing.T) {
	many := xs()
	for k := range int64(1 << 16) {
		many.Rows = append(many.Rows, row(num(k)))
	}
	for _, text := range []string{"(seq p. (star any))", "(seq p. any)", "(seq any (seq p. (star any)))", "(seq p. (alt any (seq any any)))"} {
		for _, o := range both(text, from(0, 9), from(1, 9), from(0, last/2)) {
			m := o.must(t)
			before := heap()
			for _, x := range []point{at(0, many), at(1, many), at(2, xs()), at(last, xs())} {
				if _, e := m.Step(x.time, x.tests); e != api.OK {
					t.Fatal(o, x.time, e)
				}
			}
			if grown := heap() - before; grown > 1<<20 {
				t.Errorf("%v: %d bytes more, and nothing to tell", o, grown)
			}
			runtime.KeepAlive(m)
		}
	}
	runtime.KeepAlive(many)
}

// TestKeepsWhatFits: of many rows those alone wait for which something has begun.
func TestKeepsWhatFits(t *testing.T) {
	const n, size = 200, 1 << 12
	many := xs()
	for k := range int64(size) {
		many.Rows = append(many.Rows, row(num(k)))
	}
	for _, o := range both("(seq p. (seq any (seq pxy (seq (star any) (test (q y))))))", open(0), from(0, 2*n)) {
		m := o.must(t)
		before := heap()
		for time := range int64(n) {
			if _, e := m.Step(time, []api.Table{many, ints("xy", time, time), ints("y")}); e != api.OK {
				t.Fatal(o, time, e)
			}
		}
		if grown := heap() - before; grown > 1<<20 {
			t.Errorf("%v: %d bytes more for %d rows that fit", o, grown, n)
		}
		runtime.KeepAlive(m)
	}
	runtime.KeepAlive(slices.Clone(many.Rows))
}

// TestKeepsNoRoom: many rows of which few are left do not hold on to the room of all, at whatever points they wait.
func TestKeepsNoRoom(t *testing.T) {
	const n, size = 100, 1 << 12
	many := xs()
	for k := range int64(size) {
		many.Rows = append(many.Rows, row(num(k)))
	}
	o := before(from(0, 2*n), "(seq p. (seq (star any) (seq py (seq (star any) pxy))))")
	m := o.must(t)
	before := heap()
	l := []point{at(0, many, ints("y"), ints("xy"))}
	for time := range int64(n) {
		l = append(l, at(time+1, xs(size+time), ints("y", time), ints("xy")))
	}
	for _, x := range append(l, at(2*n+1, xs(), ints("y"), ints("xy"))) {
		if _, e := m.Step(x.time, x.tests); e != api.OK {
			t.Fatal(x.time, e)
		}
	}
	if grown := heap() - before; grown > 2<<20 {
		t.Errorf("%d bytes more, and few rows left", grown)
	}
	runtime.KeepAlive(m)
	runtime.KeepAlive(slices.Clone(many.Rows))
}

// TestKeepsOneOfMany: rows that many points have stand there once.
func TestKeepsOneOfMany(t *testing.T) {
	const n, size = 1000, 300
	many := xs()
	for k := range int64(size) {
		many.Rows = append(many.Rows, row(num(k)))
	}
	for _, text := range []string{"(seq p. (star any))", "(seq (star any) (seq p. (star any)))", "(seq p. (star (seq any any)))"} {
		for _, o := range both(text, from(0, 2*n), from(n/2, 2*n)) {
			m := o.must(t)
			before := heap()
			for time := range int64(n) {
				if _, e := m.Step(time, []api.Table{many}); e != api.OK {
					t.Fatal(o, time, e)
				}
			}
			if grown := heap() - before; grown > 1<<20 {
				t.Errorf("%v: %d bytes more for %d points with the same rows", o, grown, n)
			}
			runtime.KeepAlive(m)
		}
	}
	runtime.KeepAlive(slices.Clone(many.Rows))
}
