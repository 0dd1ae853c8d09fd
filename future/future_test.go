package future_test

import (
	"math"
	"slices"
	"strings"
	"testing"

	"custos/api"
	"custos/future"
)

const last = api.MaxTime

func num(n int64) api.Value { return api.Value{Kind: api.Int, N: n} }

func rat(n, d int64) api.Value { return api.Value{Kind: api.Rat, N: n, D: d} }

func str(s string) api.Value { return api.Value{Kind: api.Str, S: s} }

func row(l ...api.Value) []api.Value { return l }

func names(l ...string) []string { return l }

func put(vars []string, rows ...[]api.Value) api.Table { return api.Table{Vars: vars, Rows: rows} }

// letters is a variable for each letter.
func letters(vars string) []string { return slices.Collect(strings.SplitSeq(vars, ""))[:len(vars)] }

// ints is a table of a letter of vars for each variable, as many Ints in a row as there are of them.
func ints(vars string, l ...int64) api.Table {
	t := put(letters(vars))
	for each := range slices.Chunk(l, max(1, len(vars))) {
		var r []api.Value
		for _, n := range each {
			r = append(r, num(n))
		}
		t.Rows = append(t.Rows, r)
	}
	return t
}

// xs is a table of x; yes and no are those without variables.
func xs(l ...int64) api.Table { return ints("x", l...) }

func yes() api.Table { return put(nil, row()) }

func no() api.Table { return put(nil) }

func alike(a, b api.Table) bool {
	return slices.Equal(a.Vars, b.Vars) && slices.EqualFunc(a.Rows, b.Rows, slices.Equal)
}

func allAlike(a, b []api.Verdict) bool {
	return slices.EqualFunc(a, b, func(v, w api.Verdict) bool {
		return v.At == w.At && v.Time == w.Time && alike(v.Table, w.Table)
	})
}

func from(lo, hi int64) api.Interval { return api.Interval{Lo: lo, Hi: hi} }

const (
	next = iota
	soon
	until
)

// operator is what is asked of Next, Soon (right alone) or Until.
type operator struct {
	kind        int
	i           api.Interval
	not         bool
	left, right []string
}

func nextOf(i api.Interval, vars string) operator {
	return operator{kind: next, i: i, right: letters(vars)}
}

func soonOf(i api.Interval, vars string) operator {
	return operator{kind: soon, i: i, right: letters(vars)}
}

func untilOf(i api.Interval, left, right string) operator {
	return operator{kind: until, i: i, left: letters(left), right: letters(right)}
}

func notUntilOf(i api.Interval, left, right string) operator {
	o := untilOf(i, left, right)
	o.not = true
	return o
}

// operators are one of each kind, all of x, at an interval.
func operators(i api.Interval) []operator {
	return []operator{nextOf(i, "x"), soonOf(i, "x"), untilOf(i, "x", "x"), notUntilOf(i, "x", "x")}
}

func (o operator) made() (*future.Future, api.Errno) {
	switch o.kind {
	case next:
		return future.Next(o.i, o.right)
	case soon:
		return future.Soon(o.i, o.right)
	}
	return future.Until(o.i, o.not, o.left, o.right)
}

func (o operator) must(t *testing.T) *future.Future {
	t.Helper()
	f, e := o.made()
	if f == nil || e != api.OK {
		t.Fatalf("%v: %d", o, e)
	}
	return f
}

// refused sees that there is none, by its error.
func (o operator) refused(t *testing.T, want api.Errno) {
	t.Helper()
	if f, e := o.made(); f != nil || e != want {
		t.Errorf("%v: %v, %d, not %d", o, f != nil, e, want)
	}
}

// point is what is told at a time.
type point struct {
	time   int64
	tables []api.Table
}

func at(time int64, tables ...api.Table) point { return point{time, tables} }

// told is a point and the tables that must be told there.
type told struct {
	point
	wants []api.Table
}

func one(time int64, t api.Table, wants ...api.Table) told { return told{at(time, t), wants} }

func two(time int64, left, right api.Table, wants ...api.Table) told {
	return told{at(time, left, right), wants}
}

// step sees what a Step tells, and that so many points wait behind it.
func step(t *testing.T, f *future.Future, x point, want []api.Verdict, e api.Errno, waits int) {
	t.Helper()
	if got, g := f.Step(x.time, x.tables); g != e || !allAlike(got, want) {
		t.Errorf("Step(%d, %v) is %v, %d, not %v, %d", x.time, x.tables, got, g, want, e)
	}
	if f.Waits() != waits {
		t.Errorf("behind Step(%d, %v) %d wait, not %d", x.time, x.tables, f.Waits(), waits)
	}
}

// run tells points from the beginning on, and sees that the answers are those of the points 0, 1, 2 ..
func run(t *testing.T, f *future.Future, l ...told) {
	t.Helper()
	if f.Waits() != 0 {
		t.Errorf("at the beginning %d wait", f.Waits())
	}
	goOn(t, f, nil, l...)
}

// goOn is run behind points that have come.
func goOn(t *testing.T, f *future.Future, come []told, l ...told) {
	t.Helper()
	n, all := 0, slices.Concat(come, l)
	for _, x := range come {
		n += len(x.wants)
	}
	for i, x := range l {
		var want []api.Verdict
		for _, w := range x.wants {
			want = append(want, api.Verdict{At: n, Time: all[n].time, Table: w})
			n++
		}
		step(t, f, x.point, want, api.OK, len(come)+i+1-n)
	}
}

type way struct {
	name string
	operator
	l []told
}

func runAll(t *testing.T, l []way) {
	t.Helper()
	for _, c := range l {
		t.Run(c.name, func(t *testing.T) { run(t, c.must(t), c.l...) })
	}
}

// TestExamples: the chapter's.
func TestExamples(t *testing.T) {
	parts := func(l ...api.Table) []told {
		return []told{two(0, xs(1), xs()), two(1, xs(), xs(1)), two(2, xs(), xs(2)), two(20, xs(), xs(), l...)}
	}
	runAll(t, []way{
		{"next", nextOf(from(1, 2), "x"), []told{one(0, xs(1)), one(1, xs(2), xs(2)), one(1, xs(3), xs()), one(9, xs(4), xs())}},
		{"soon", soonOf(from(0, 1), "x"), []told{one(0, xs(1)), one(1, xs(2)), one(2, xs(3), xs(1, 2)), one(9, xs(), xs(2, 3), xs(3))}},
		{"until", untilOf(from(0, 9), "x", "x"), parts(xs(1), xs(1), xs(2))},
		{"until, not", notUntilOf(from(0, 9), "x", "x"), parts(xs(2), xs(1, 2), xs(2))},
	})
	operator{kind: soon, i: api.Interval{Open: true}, right: names("x")}.refused(t, api.ErrArg)
}

// TestNext: P14.2: next points too near and too far behind, at the same time, and at the greatest ones.
func TestNext(t *testing.T) {
	const eight = "abcdefgh"
	full := ints(eight, 1, 2, 3, 4, 5, 6, 7, 8)
	runAll(t, []way{
		{"from 0", nextOf(from(0, 2), "x"), []told{one(0, xs(1)), one(0, xs(2), xs(2)), one(2, xs(3), xs(3)), one(5, xs(4), xs()), one(6, xs(), xs()), one(6, xs(5), xs(5))}},
		{"[0,0]", nextOf(from(0, 0), "x"), []told{one(3, xs(1)), one(3, xs(2), xs(2)), one(4, xs(3), xs()), one(4, xs(4), xs(4))}},
		{"[a,a]", nextOf(from(3, 3), "x"), []told{one(0, xs(1)), one(2, xs(2), xs()), one(5, xs(3), xs(3)), one(9, xs(4), xs()), one(12, xs(5), xs(5))}},
		{"too near and too far", nextOf(from(2, 4), "x"), []told{one(0, xs(1)), one(1, xs(2), xs()), one(3, xs(3), xs(3)), one(7, xs(4), xs(4)), one(12, xs(5), xs()), one(12, xs(6), xs()), one(14, xs(7), xs(7))}},
		{"settled by one too far", nextOf(from(0, 1), "x"), []told{one(0, xs(1)), one(last, xs(2), xs()), one(last, xs(3), xs(3))}},
		{"the greatest time", nextOf(from(last, last), "x"), []told{one(0, xs(1)), one(last, xs(2), xs(2)), one(last, xs(3), xs())}},
		{"nearly the greatest time", nextOf(from(last, last), "x"), []told{one(1, xs(1)), one(last, xs(2), xs())}},
		{"up to the greatest time", nextOf(from(0, last), "x"), []told{one(0, xs(1)), one(last, xs(2), xs(2)), one(last, xs(3), xs(3))}},
		{"nothing but the next one", nextOf(from(0, 9), "x"), []told{one(0, xs(1)), one(1, xs(), xs()), one(2, xs(2), xs(2)), one(3, xs(2), xs(2))}},
		{"no variables", nextOf(from(1, 1), ""), []told{one(0, yes()), one(1, no(), no()), one(2, yes(), yes()), one(2, yes(), no()), one(3, yes(), yes()), one(5, yes(), no())}},
		{"two variables", nextOf(from(0, 1), "yx"), []told{one(0, ints("xy")), one(1, ints("xy", 1, 2, 3, 0), ints("xy", 1, 2, 3, 0)), one(1, ints("xy"), ints("xy"))}},
		{"eight variables", nextOf(from(0, 1), "hgfedcba"), []told{one(0, ints(eight)), one(1, full, full), one(3, full, ints(eight))}},
	})
}

// TestSoon: P14.2: rows of one point are those of several ahead of it; points are settled one by one, and many at once.
func TestSoon(t *testing.T) {
	const eight = "abcdefgh"
	many := []int64{1, 2, 3, 4, 5, 6, 7, 8, 1, 2, 3, 4, 5, 6, 7, 9}
	runAll(t, []way{
		{"[0,0]", soonOf(from(0, 0), "x"), []told{one(0, xs(1)), one(0, xs(2)), one(0, xs()), one(1, xs(3), xs(1, 2), xs(2), xs()), one(2, xs(), xs(3))}},
		{"[a,a]", soonOf(from(3, 3), "x"), []told{one(0, xs(1)), one(1, xs(9)), one(2, xs()), one(3, xs(1, 2)), one(4, xs(3), xs(1, 2)), one(5, xs(), xs(3)), one(6, xs(4), xs()), one(7, xs(), xs(4))}},
		{"[a,a], times between", soonOf(from(3, 3), "x"), []told{one(0, xs(1)), one(2, xs(2)), one(3, xs(1)), one(4, xs(7), xs(1)), one(5, xs(1)), one(6, xs(), xs(1)), one(8, xs(3), xs(), xs())}},
		{"at the same time", soonOf(from(0, 5), "x"), []told{one(3, xs(1)), one(3, xs(2)), one(8, xs(3)), one(8, xs(4)), one(9, xs(), xs(1, 2, 3, 4), xs(2, 3, 4)), one(last, xs(), xs(3, 4), xs(4), xs())}},
		{"at the same time, none but later ones", soonOf(from(1, 3), "x"), []told{one(0, xs(1)), one(0, xs(2)), one(4, xs(3), xs(), xs())}},
		{"one settles many", soonOf(from(1, 2), "x"), []told{one(0, xs(1)), one(1, xs(2)), one(2, xs(3)), one(3, xs(4), xs(2, 3)), one(100, xs(9), xs(3, 4), xs(4), xs())}},
		{"just far enough", soonOf(from(2, 4), "x"), []told{one(0, xs()), one(2, xs(1)), one(4, xs(2)), one(5, xs(3), xs(1, 2)), one(7, xs(), xs(2, 3))}},
		{"far apart", soonOf(from(0, 9), "x"), []told{one(0, xs(1, 2)), one(10, xs(), xs(1, 2)), one(11, xs(2)), one(last, xs(), xs(2), xs(2))}},
		{"far apart, never within", soonOf(from(5, 9), "x"), []told{one(0, xs(1)), one(10, xs(1), xs()), one(100, xs(1), xs()), one(last, xs(1), xs())}},
		{"comes again behind a time without it", soonOf(from(0, 1), "x"), []told{one(0, xs(1)), one(1, xs()), one(2, xs(), xs(1)), one(3, xs(1), xs()), one(4, xs(), xs(1)), one(5, xs(), xs(1)), one(6, xs(), xs())}},
		{"comes again ahead of that", soonOf(from(0, 2), "x"), []told{one(0, xs(1)), one(1, xs()), one(2, xs(1)), one(3, xs(), xs(1)), one(4, xs(), xs(1)), one(5, xs(), xs(1)), one(6, xs(), xs())}},
		{"two points have it, one between has not", soonOf(from(1, 1), "x"), []told{one(0, xs()), one(1, xs(1)), one(2, xs(), xs(1)), one(3, xs(1), xs()), one(4, xs(), xs(1)), one(5, xs(), xs())}},
		{"as great as can be settled", soonOf(from(0, last-1), "x"), []told{one(0, xs(1)), one(last-1, xs(2)), one(last, xs(3), xs(1, 2)), one(last, xs(4))}},
		{"that time alone", soonOf(from(last-1, last-1), "x"), []told{one(0, xs(1)), one(1, xs()), one(last-1, xs(2)), one(last-1, xs(3)), one(last, xs(4), xs(2, 3)), one(last, xs(5))}},
		{"no time is above the first", soonOf(from(0, last), "x"), []told{one(0, xs(1)), one(0, xs(2)), one(7, xs(3)), one(last, xs(4)), one(last, xs(5))}},
		{"no time is above any", soonOf(from(last, last), "x"), []told{one(0, xs(1)), one(last, xs(2)), one(last, xs(3))}},
		{"no time is above the second", soonOf(from(0, last-1), "x"), []told{one(0, xs(1)), one(1, xs(2)), one(last-1, xs(3)), one(last, xs(4), xs(1, 2, 3)), one(last, xs(5))}},
		{"no time is above one at MaxTime", soonOf(from(0, 0), "x"), []told{one(last-1, xs(1)), one(last, xs(2), xs(1)), one(last, xs(3)), one(last, xs(4))}},
		{"no variables", soonOf(from(1, 2), ""), []told{one(0, yes()), one(1, no()), one(2, no()), one(3, yes(), no()), one(4, no(), yes()), one(5, no(), yes()), one(6, no(), no())}},
		{"two variables, told in another order", soonOf(from(0, 1), "yx"), []told{one(0, ints("xy", 1, 2)), one(1, ints("xy", 1, 1, 2, 1)), one(2, ints("xy"), ints("xy", 1, 1, 1, 2, 2, 1)), one(3, ints("xy"), ints("xy", 1, 1, 2, 1))}},
		{"eight variables", soonOf(from(0, 1), eight), []told{one(0, ints(eight, many[8:]...)), one(1, ints(eight, many[:8]...)), one(2, ints(eight), ints(eight, many...)), one(3, ints(eight), ints(eight, many[:8]...))}},
		{"no rows", soonOf(from(0, 5), "x"), []told{one(0, xs()), one(0, xs()), one(last, xs(), xs(), xs())}},
	})
}

// TestSoonKinds: P14.2: rows of all kinds stay apart and stand in their order.
func TestSoonKinds(t *testing.T) {
	f := soonOf(from(0, 9), "x").must(t)
	full := strings.Repeat("x", api.MaxText)
	run(t, f,
		one(0, put(names("x"), row(str("")))),
		one(1, put(names("x"), row(num(1)), row(rat(1, 1)), row(str("1")))),
		one(2, put(names("x"), row(num(math.MinInt64)), row(rat(-1, 2)), row(str("\x00")), row(str(full)))),
		one(10, xs(), put(names("x"), row(num(math.MinInt64)), row(num(1)), row(rat(-1, 2)), row(rat(1, 1)), row(str("")), row(str("\x00")), row(str("1")), row(str(full)))))
}

// TestUntil: P14.2: rows come, and the points ahead have them, as far as left goes.
func TestUntil(t *testing.T) {
	runAll(t, []way{
		{"is let go, and comes again", untilOf(from(1, 9), "x", "x"), []told{two(0, xs(1), xs(1)), two(1, xs(), xs()), two(2, xs(1), xs()), two(3, xs(), xs(1)), two(4, xs(), xs()), two(20, xs(), xs(), xs(), xs(), xs(1), xs(), xs())}},
		{"the same, not", notUntilOf(from(1, 9), "x", "x"), []told{two(0, xs(), xs(1)), two(1, xs(1), xs()), two(2, xs(), xs()), two(3, xs(1), xs(1)), two(4, xs(1), xs()), two(20, xs(), xs(), xs(), xs(), xs(1), xs(), xs())}},
		{"comes, is let go, and comes again", untilOf(from(0, 9), "x", "x"), []told{two(0, xs(1), xs(1)), two(1, xs(), xs()), two(2, xs(1), xs()), two(3, xs(), xs(1)), two(20, xs(), xs(), xs(1), xs(), xs(1), xs(1))}},
		{"the same, not", notUntilOf(from(0, 9), "x", "x"), []told{two(0, xs(), xs(1)), two(1, xs(1), xs()), two(2, xs(), xs()), two(3, xs(1), xs(1)), two(20, xs(), xs(), xs(1), xs(), xs(1), xs(1))}},
		{"left at its own point", untilOf(from(0, 1), "x", "x"), []told{two(0, xs(), xs(1, 2)), two(1, xs(), xs(3)), two(9, xs(), xs(), xs(1, 2), xs(3))}},
		{"not, left at its own point", notUntilOf(from(0, 1), "x", "x"), []told{two(0, xs(1, 3), xs(1, 2)), two(1, xs(3), xs(1, 3)), two(9, xs(), xs(), xs(1, 2), xs(1, 3))}},
		{"right of the point that settles", untilOf(from(1, 1), "x", "x"), []told{two(0, xs(1), xs()), two(1, xs(), xs(1)), two(2, xs(1), xs(1, 2), xs(1)), two(3, xs(), xs(), xs())}},
		{"at the same time", untilOf(from(0, 0), "x", "x"), []told{two(5, xs(1), xs()), two(5, xs(1, 2), xs(2)), two(5, xs(), xs(1)), two(6, xs(), xs(), xs(1), xs(1, 2), xs(1))}},
		{"not, at the same time", notUntilOf(from(0, 0), "x", "x"), []told{two(5, xs(2), xs()), two(5, xs(3), xs(2)), two(5, xs(), xs(1, 3)), two(6, xs(), xs(), xs(1), xs(1, 2), xs(1, 3))}},
		{"one by one", untilOf(from(0, 2), "", "x"), []told{two(0, yes(), xs(1)), two(1, yes(), xs(2)), two(2, yes(), xs(3)), two(3, yes(), xs(4), xs(1, 2, 3)), two(4, no(), xs(5), xs(2, 3, 4)), two(5, yes(), xs(6), xs(3, 4, 5)), two(6, yes(), xs(), xs(4, 5)), two(7, yes(), xs(), xs(5)), two(8, yes(), xs(), xs(6))}},
		{"no rows at the left", untilOf(from(0, 1), "x", "x"), []told{two(0, xs(), xs(1)), two(1, xs(), xs(2)), two(9, xs(), xs(), xs(1), xs(2))}},
		{"not, no rows at the left", notUntilOf(from(0, 1), "x", "x"), []told{two(0, xs(), xs(1)), two(1, xs(), xs(2)), two(9, xs(), xs(), xs(1, 2), xs(2))}},
		{"no rows at the right", untilOf(from(0, 1), "x", "x"), []told{two(0, xs(1), xs()), two(1, xs(1), xs()), two(9, xs(), xs(), xs(), xs())}},
		{"no rows at all", untilOf(from(0, 1), "x", "x"), []told{two(0, xs(), xs()), two(1, xs(), xs()), two(9, xs(), xs(), xs(), xs())}},
		{"far apart", untilOf(from(1, 9), "x", "x"), []told{two(0, xs(1, 2), xs()), two(5, xs(1), xs(1, 2)), two(9, xs(), xs(1, 2)), two(last, xs(), xs(), xs(1, 2), xs(1), xs())}},
		{"the greatest time that can be settled", notUntilOf(from(last-1, last-1), "x", "x"), []told{two(0, xs(3), xs(4)), two(0, xs(1), xs(4)), two(1, xs(2), xs(4)), two(last-1, xs(), xs(1, 2, 3)), two(last, xs(), xs(5), xs(), xs(3)), two(last, xs(), xs(5))}},
		{"no time is above any", untilOf(from(0, last), "", "x"), []told{two(0, yes(), xs(1)), two(0, yes(), xs(2)), two(last, yes(), xs(3)), two(last, no(), xs(4))}},
		{"not, no time is above any", notUntilOf(from(last, last), "x", "x"), []told{two(0, xs(), xs(1)), two(last, xs(1), xs(2)), two(last, xs(), xs(3))}},
	})
}

// TestUntilVars: P14.2: left without variables, with some of right's, and with all of them, told in any order.
func TestUntilVars(t *testing.T) {
	rows := []told{two(1, xs(1, 2), ints("xy", 1, 1, 1, 2, 2, 1)), two(2, xs(), ints("xy", 2, 5))}
	four := ints("abcd", 1, 2, 3, 4, 3, 2, 1, 4)
	runAll(t, []way{
		{"none", untilOf(from(0, 9), "", "x"), []told{two(0, yes(), xs(1)), two(1, no(), xs(2)), two(2, yes(), xs(3)), two(3, no(), xs(4)), two(20, no(), xs(), xs(1, 2), xs(2), xs(3, 4), xs(4))}},
		{"not, none", notUntilOf(from(0, 9), "", "x"), []told{two(0, no(), xs(1)), two(1, yes(), xs(2)), two(2, no(), xs(3)), two(3, yes(), xs(4)), two(20, no(), xs(), xs(1, 2), xs(2), xs(3, 4), xs(4))}},
		{"none at both sides", untilOf(from(1, 2), "", ""), []told{two(0, yes(), no()), two(1, yes(), yes()), two(2, no(), no()), two(3, yes(), yes(), yes()), two(4, no(), yes(), no()), two(5, no(), no(), no()), two(6, no(), no(), yes())}},
		{"not, none at both sides", notUntilOf(from(1, 2), "", ""), []told{two(0, no(), no()), two(1, no(), yes()), two(2, yes(), no()), two(3, no(), yes(), yes()), two(4, yes(), yes(), no()), two(5, yes(), no(), no()), two(6, yes(), no(), yes())}},
		{"the first one", untilOf(from(0, 9), "x", "yx"), []told{two(0, xs(1), ints("xy")), rows[0], rows[1], two(20, xs(), ints("xy"), ints("xy", 1, 1, 1, 2), ints("xy", 1, 1, 1, 2, 2, 1, 2, 5), ints("xy", 2, 5))}},
		{"the last one", untilOf(from(0, 9), "y", "xy"), []told{two(0, ints("y", 1), ints("xy")), two(1, ints("y", 1, 5), rows[0].tables[1]), two(2, ints("y"), rows[1].tables[1]), two(20, ints("y"), ints("xy"), ints("xy", 1, 1, 2, 1), ints("xy", 1, 1, 1, 2, 2, 1, 2, 5), ints("xy", 2, 5))}},
		{"not, the last one", notUntilOf(from(0, 9), "y", "yx"), []told{two(0, ints("y", 1), ints("xy")), two(1, ints("y", 5), rows[0].tables[1]), two(2, ints("y"), ints("xy", 2, 5, 3, 1)), two(20, ints("y"), ints("xy"), ints("xy", 1, 2), ints("xy", 1, 1, 1, 2, 2, 1, 3, 1), ints("xy", 2, 5, 3, 1))}},
		{"all, in another order", untilOf(from(0, 9), "yx", "xy"), []told{two(0, ints("xy", 1, 2, 3, 3), ints("xy")), two(1, ints("xy"), ints("xy", 1, 2, 2, 1)), two(20, ints("xy"), ints("xy"), ints("xy", 1, 2), ints("xy", 1, 2, 2, 1))}},
		{"not, all, in another order", notUntilOf(from(0, 9), "yx", "xy"), []told{two(0, ints("xy", 1, 2, 3, 3), ints("xy")), two(1, ints("xy"), ints("xy", 1, 2, 2, 1)), two(20, ints("xy"), ints("xy"), ints("xy", 2, 1), ints("xy", 1, 2, 2, 1))}},
		{"some, in another order", untilOf(from(0, 9), "ca", "bdca"), []told{two(0, ints("ac", 1, 3), ints("abcd")), two(1, ints("ac"), four), two(20, ints("ac"), ints("abcd"), ints("abcd", 1, 2, 3, 4), four)}},
		{"not, some, in another order", notUntilOf(from(0, 9), "ca", "bdca"), []told{two(0, ints("ac", 1, 3), ints("abcd")), two(1, ints("ac"), four), two(20, ints("ac"), ints("abcd"), ints("abcd", 3, 2, 1, 4), four)}},
	})
}

// TestUntilEight: P14.2: as many variables as may be, left with each of them by itself and with all but one.
func TestUntilEight(t *testing.T) {
	const vars = "abcdefgh"
	a, b := []int64{1, 2, 3, 4, 5, 6, 7, 8}, []int64{2, 3, 4, 5, 6, 7, 8, 9}
	all, none := ints(vars, slices.Concat(a, b)...), ints(vars)
	for i := range vars {
		alone, others := vars[i:i+1], vars[:i]+vars[i+1:]
		rest := slices.Concat(a[:i], a[i+1:])
		for _, not := range []bool{false, true} {
			first, second := ints(vars, a...), ints(vars, b...)
			if not {
				first, second = second, first
			}
			o := untilOf(from(0, 9), alone, vars)
			o.not = not
			run(t, o.must(t), two(0, ints(alone, a[i]), none), two(1, ints(alone), all), two(11, ints(alone), none, first, all))
			run(t, o.must(t), two(0, ints(alone, b[i]), none), two(1, ints(alone), all), two(11, ints(alone), none, second, all))
			o = untilOf(from(0, 9), others, vars)
			o.not = not
			run(t, o.must(t), two(0, ints(others, rest...), none), two(1, ints(others), all), two(11, ints(others), none, first, all))
		}
	}
}

// TestIntervals: P14.1: those that may be, up to their edges, and those that may not: no interval, and each one that is Open.
func TestIntervals(t *testing.T) {
	edges := []int64{math.MinInt64, -last, -1, 0, 1, 5, last - 1, last, last + 1, math.MaxInt64}
	for _, lo := range edges {
		for _, hi := range edges {
			for _, o := range operators(from(lo, hi)) {
				if lo >= 0 && lo <= hi && hi <= last {
					o.must(t)
				} else {
					o.refused(t, api.ErrArg)
				}
			}
			for _, o := range operators(api.Interval{Lo: lo, Hi: hi, Open: true}) {
				o.refused(t, api.ErrArg)
			}
		}
	}
}

// TestVars: P14.1: variables that table.Empty refuses, of each part and of both; left ones that are none of right.
func TestVars(t *testing.T) {
	wrong := []api.Interval{from(2, 1), from(-1, 1), {Open: true}, {Lo: 1, Hi: 2, Open: true}}
	twice, nine, far := names("x", "x"), letters("abcdefghi"), names("a", "b", "a")
	for _, bad := range [][]string{twice, nine, far, slices.Repeat(names("x"), 1000), names("", "")} {
		for _, kind := range []int{next, soon} {
			operator{kind: kind, i: from(0, 1), right: bad}.refused(t, api.ErrVars)
			for _, i := range wrong {
				operator{kind: kind, i: i, right: bad}.refused(t, api.ErrArg)
			}
		}
		for _, not := range []bool{false, true} {
			for _, parts := range [][2][]string{{bad, names("x")}, {names("x"), bad}, {nil, bad}, {bad, nil}, {bad, bad}, {bad, twice}, {bad, letters("abcdefgh")}} {
				operator{until, from(0, 1), not, parts[0], parts[1]}.refused(t, api.ErrVars)
				for _, i := range wrong {
					operator{until, i, not, parts[0], parts[1]}.refused(t, api.ErrArg)
				}
			}
		}
	}
	for _, parts := range [][2]string{{"y", "x"}, {"x", ""}, {"xy", "x"}, {"yx", "x"}, {"x", "abcdefgh"}, {"abcdefgh", "abcdefg"}, {"abcz", "abcd"}} {
		for _, not := range []bool{false, true} {
			operator{until, from(0, 1), not, letters(parts[0]), letters(parts[1])}.refused(t, api.ErrVars)
			for _, i := range wrong {
				operator{until, i, not, letters(parts[0]), letters(parts[1])}.refused(t, api.ErrArg)
			}
		}
	}
	operator{until, from(0, 1), false, names("X"), names("x")}.refused(t, api.ErrVars)
	operator{until, from(0, 1), true, names(""), names("x")}.refused(t, api.ErrVars)
}

// TestVarsOfAnyText: P14.1: table looks at no name, and tells variables in their order, byte by byte.
func TestVarsOfAnyText(t *testing.T) {
	odd := names("\xff", "not", "", "X", strings.Repeat("v", 100), "\x00", "x y")
	sorted := slices.Sorted(slices.Values(odd))
	full, empty := put(sorted, slices.Repeat(row(num(1)), 7)), put(sorted)
	run(t, operator{kind: next, i: from(0, 1), right: odd}.must(t), one(0, empty), one(1, full, full))
	run(t, operator{kind: soon, i: from(0, 1), right: odd}.must(t), one(0, empty), one(1, full), one(2, empty, full))
	f := operator{kind: until, i: from(0, 1), left: names("not", ""), right: odd}.must(t)
	left := func(n int64) api.Table { return put(names("", "not"), row(num(1), num(n))) }
	run(t, f, two(0, left(1), empty), two(1, left(2), full), two(2, left(1), full, full), two(9, left(1), empty, full, full))
}

// TestNoVars: rule R3: no list of variables and an empty one are the same; so are a table's without rows and its row without values.
func TestNoVars(t *testing.T) {
	for _, none := range [][]string{nil, {}} {
		for _, l := range [][][]api.Value{{nil}, {{}}} {
			for _, kind := range []int{next, soon, until} {
				f := operator{kind: kind, i: from(0, 1), left: none, right: none}.must(t)
				full, empty := api.Table{Vars: none, Rows: l}, api.Table{Vars: none, Rows: [][]api.Value{}}
				tables := func(right api.Table) []api.Table {
					if kind == until {
						return []api.Table{full, right}
					}
					return []api.Table{right}
				}
				f.Step(0, tables(empty))
				got, e := f.Step(1, tables(full))
				more, g := f.Step(9, tables(empty))
				if got = append(got, more...); e != api.OK || g != api.OK || len(got) != 2 || !alike(got[0].Table, yes()) {
					t.Errorf("%d: %v, %d, %d", kind, got, e, g)
				}
			}
		}
	}
}
