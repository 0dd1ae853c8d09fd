package past_test

import (
	"math"
	"slices"
	"strings"
	"testing"

	"custos/api"
	"custos/past"
)

const last = api.MaxTime

func num(n int64) api.Value { return api.Value{Kind: api.Int, N: n} }

func rat(n, d int64) api.Value { return api.Value{Kind: api.Rat, N: n, D: d} }

func str(s string) api.Value { return api.Value{Kind: api.Str, S: s} }

func row(l ...api.Value) []api.Value { return l }

func names(l ...string) []string { return l }

func put(vars []string, rows ...[]api.Value) api.Table { return api.Table{Vars: vars, Rows: rows} }

func nought() api.Table { return api.Table{} }

// letters is a variable for each letter.
func letters(vars string) []string { return slices.Collect(strings.SplitSeq(vars, ""))[:len(vars)] }

// ints is a table of a letter of vars for each variable, as many Ints in a row as there are of them.
func ints(vars string, l ...int64) api.Table {
	t := put(letters(vars))
	for each := range slices.Chunk(l, max(1, len(vars))) {
		var r []api.Value
		for _, n := range each {
			r = append(r, num(n))
		}
		t.Rows = append(t.Rows, r)
	}
	return t
}

// xs is a table of x; yes and no are those without variables.
func xs(l ...int64) api.Table { return ints("x", l...) }

func yes() api.Table { return put(nil, row()) }

func no() api.Table { return put(nil) }

func alike(a, b api.Table) bool {
	return slices.Equal(a.Vars, b.Vars) && slices.EqualFunc(a.Rows, b.Rows, slices.Equal)
}

func from(lo, hi int64) api.Interval { return api.Interval{Lo: lo, Hi: hi} }

func open(lo int64) api.Interval { return api.Interval{Lo: lo, Open: true} }

const (
	prev = iota
	once
	since
)

// operator is what is asked of Prev, Once (right alone) or Since.
type operator struct {
	kind        int
	i           api.Interval
	not         bool
	left, right []string
}

func prevOf(i api.Interval, vars string) operator {
	return operator{kind: prev, i: i, right: letters(vars)}
}

func onceOf(i api.Interval, vars string) operator {
	return operator{kind: once, i: i, right: letters(vars)}
}

func sinceOf(i api.Interval, left, right string) operator {
	return operator{kind: since, i: i, left: letters(left), right: letters(right)}
}

func notSinceOf(i api.Interval, left, right string) operator {
	o := sinceOf(i, left, right)
	o.not = true
	return o
}

func (o operator) made() (*past.Past, api.Errno) {
	switch o.kind {
	case prev:
		return past.Prev(o.i, o.right)
	case once:
		return past.Once(o.i, o.right)
	}
	return past.Since(o.i, o.not, o.left, o.right)
}

func (o operator) must(t *testing.T) *past.Past {
	t.Helper()
	p, e := o.made()
	if p == nil || e != api.OK {
		t.Fatalf("%v: %d", o, e)
	}
	return p
}

// refused sees that there is none, by its error.
func (o operator) refused(t *testing.T, want api.Errno) {
	t.Helper()
	if p, e := o.made(); p != nil || e != want {
		t.Errorf("%v: %v, %d, not %d", o, p != nil, e, want)
	}
}

// point is what is told at a time.
type point struct {
	time   int64
	tables []api.Table
}

func at(time int64, tables ...api.Table) point { return point{time, tables} }

// told is a point and what must be told there.
type told struct {
	point
	want api.Table
}

func one(time int64, t, want api.Table) told { return told{at(time, t), want} }

func two(time int64, left, right, want api.Table) told { return told{at(time, left, right), want} }

func step(t *testing.T, p *past.Past, x point, want api.Table, e api.Errno) {
	t.Helper()
	if got, f := p.Step(x.time, x.tables); f != e || !alike(got, want) {
		t.Errorf("Step(%d, %v) is %v, %d, not %v, %d", x.time, x.tables, got, f, want, e)
	}
}

func run(t *testing.T, p *past.Past, l ...told) {
	t.Helper()
	for _, x := range l {
		step(t, p, x.point, x.want, api.OK)
	}
}

type way struct {
	name string
	operator
	l []told
}

func runAll(t *testing.T, l []way) {
	t.Helper()
	for _, c := range l {
		t.Run(c.name, func(t *testing.T) { run(t, c.must(t), c.l...) })
	}
}

// TestExamples: the chapter's.
func TestExamples(t *testing.T) {
	parts := func(l ...api.Table) []told {
		return []told{two(0, xs(), xs(1), l[0]), two(1, xs(1), xs(2), l[1]), two(2, xs(2), xs(), l[2])}
	}
	runAll(t, []way{
		{"prev", prevOf(from(1, 2), "x"), []told{one(0, xs(1), xs()), one(1, xs(2), xs(1)), one(1, xs(3), xs()), one(9, xs(4), xs())}},
		{"once", onceOf(from(0, 2), "x"), []told{one(0, xs(1), xs(1)), one(2, xs(2), xs(1, 2)), one(3, xs(), xs(2))}},
		{"once, open", onceOf(open(1), "x"), []told{one(0, xs(1), xs()), one(0, xs(2), xs()), one(1, xs(3), xs(1, 2)), one(1, xs(), xs(1, 2))}},
		{"since", sinceOf(open(0), "x", "x"), parts(xs(1), xs(1, 2), xs(2))},
		{"since, not", notSinceOf(open(0), "x", "x"), parts(xs(1), xs(2), xs())},
	})
	p := onceOf(from(0, 2), "x").must(t)
	run(t, p, one(6, xs(), xs()))
	step(t, p, at(5, xs()), nought(), api.ErrTime)
	onceOf(from(2, 1), "x").refused(t, api.ErrArg)
}

// TestPrev: P13.2: the first point, points too near and too far behind, at the same time, and at the greatest ones.
func TestPrev(t *testing.T) {
	runAll(t, []way{
		{"from 0", prevOf(from(0, 2), "x"), []told{one(0, xs(1), xs()), one(0, xs(2), xs(1)), one(2, xs(3), xs(2)), one(5, xs(4), xs()), one(6, xs(), xs(4)), one(6, xs(5), xs())}},
		{"the first point at any time", prevOf(from(0, 9), "x"), []told{one(5, xs(1), xs()), one(5, xs(2), xs(1))}},
		{"the first point that far from 0", prevOf(from(5, 5), "x"), []told{one(5, xs(1), xs()), one(10, xs(2), xs(1))}},
		{"the first point, open", prevOf(open(0), "x"), []told{one(last, xs(1), xs()), one(last, xs(2), xs(1))}},
		{"[0,0]", prevOf(from(0, 0), "x"), []told{one(3, xs(1), xs()), one(3, xs(2), xs(1)), one(4, xs(3), xs()), one(4, xs(4), xs(3))}},
		{"[a,a]", prevOf(from(3, 3), "x"), []told{one(0, xs(1), xs()), one(2, xs(2), xs()), one(5, xs(3), xs(2)), one(9, xs(4), xs()), one(12, xs(), xs(4))}},
		{"too near and too far", prevOf(from(2, 4), "x"), []told{one(0, xs(1), xs()), one(1, xs(2), xs()), one(3, xs(3), xs(2)), one(7, xs(4), xs(3)), one(12, xs(5), xs())}},
		{"open from a time on", prevOf(open(3), "x"), []told{one(0, xs(1), xs()), one(2, xs(2), xs()), one(5, xs(3), xs(2)), one(last, xs(4), xs(3)), one(last, xs(5), xs())}},
		{"the greatest time", prevOf(from(last, last), "x"), []told{one(0, xs(1), xs()), one(last, xs(2), xs(1))}},
		{"nearly the greatest time", prevOf(from(last, last), "x"), []told{one(1, xs(1), xs()), one(last, xs(2), xs())}},
		{"open from the greatest time on", prevOf(open(last), "x"), []told{one(0, xs(1), xs()), one(last, xs(2), xs(1)), one(last, xs(3), xs())}},
		{"nothing but the point ahead", prevOf(from(0, 9), "x"), []told{one(0, xs(1), xs()), one(1, xs(), xs(1)), one(2, xs(2), xs()), one(3, xs(2), xs(2))}},
		{"no variables", prevOf(from(1, 1), ""), []told{one(0, yes(), no()), one(1, no(), yes()), one(2, yes(), no()), one(2, yes(), no()), one(3, no(), yes())}},
		{"two variables", prevOf(open(0), "yx"), []told{one(0, ints("xy", 1, 2, 3, 0), ints("xy")), one(1, ints("xy"), ints("xy", 1, 2, 3, 0))}},
		{"eight variables", prevOf(open(0), "hgfedcba"), []told{one(0, ints("abcdefgh", 1, 2, 3, 4, 5, 6, 7, 8), ints("abcdefgh")),
			one(1, ints("abcdefgh"), ints("abcdefgh", 1, 2, 3, 4, 5, 6, 7, 8))}},
	})
}

// TestOnce: P13.2: rows come, grow old, come again ahead of that and behind it.
func TestOnce(t *testing.T) {
	eight, many := "abcdefgh", []int64{1, 2, 3, 4, 5, 6, 7, 8, 1, 2, 3, 4, 5, 6, 7, 9}
	runAll(t, []way{
		{"[0,0]", onceOf(from(0, 0), "x"), []told{one(0, xs(1), xs(1)), one(0, xs(2), xs(1, 2)), one(0, xs(), xs(1, 2)), one(1, xs(3), xs(3)), one(2, xs(), xs())}},
		{"[a,a]", onceOf(from(3, 3), "x"), []told{one(0, xs(1), xs()), one(1, xs(1, 2), xs()), one(2, xs(), xs()), one(3, xs(9), xs(1)), one(4, xs(), xs(1, 2)), one(5, xs(), xs()), one(6, xs(), xs(9))}},
		{"[a,a], times between", onceOf(from(3, 3), "x"), []told{one(0, xs(1), xs()), one(2, xs(1), xs()), one(3, xs(), xs(1)), one(4, xs(), xs()), one(5, xs(), xs(1)), one(6, xs(), xs())}},
		{"open from 0", onceOf(open(0), "x"), []told{one(0, xs(2), xs(2)), one(7, xs(1), xs(1, 2)), one(last, xs(), xs(1, 2)), one(last, xs(0), xs(0, 1, 2))}},
		{"open from a time on", onceOf(open(5), "x"), []told{one(1, xs(1), xs()), one(5, xs(1, 2), xs()), one(6, xs(3), xs(1)), one(10, xs(), xs(1, 2)), one(last, xs(4), xs(1, 2, 3))}},
		{"the greatest time", onceOf(from(last, last), "x"), []told{one(0, xs(1), xs()), one(0, xs(2), xs()), one(1, xs(3), xs()), one(last, xs(4), xs(1, 2)), one(last, xs(), xs(1, 2))}},
		{"up to the greatest time", onceOf(from(0, last), "x"), []told{one(0, xs(1), xs(1)), one(last-1, xs(2), xs(1, 2)), one(last, xs(3), xs(1, 2, 3))}},
		{"open from the greatest time on", onceOf(open(last), "x"), []told{one(0, xs(1), xs()), one(1, xs(2), xs()), one(last, xs(), xs(1))}},
		{"far apart", onceOf(from(0, 9), "x"), []told{one(0, xs(1, 2), xs(1, 2)), one(10, xs(), xs()), one(11, xs(2), xs(2)), one(last, xs(), xs())}},
		{"far apart, never told", onceOf(from(5, 9), "x"), []told{one(0, xs(1, 2), xs()), one(10, xs(2), xs()), one(100, xs(), xs()), one(100, xs(1), xs()), one(105, xs(), xs(1))}},
		{"far apart, and it comes just then", onceOf(from(5, 9), "x"), []told{one(0, xs(1), xs()), one(50, xs(1), xs()), one(54, xs(), xs()), one(55, xs(), xs(1)), one(60, xs(), xs())}},
		{"just as old as may be", onceOf(from(2, 4), "x"), []told{one(0, xs(1), xs()), one(1, xs(), xs()), one(2, xs(), xs(1)), one(4, xs(), xs(1)), one(5, xs(), xs())}},
		{"the younger lasts longer", onceOf(from(0, 3), "x"), []told{one(0, xs(1, 2), xs(1, 2)), one(2, xs(1), xs(1, 2)), one(3, xs(), xs(1, 2)), one(4, xs(), xs(1)), one(5, xs(), xs(1)), one(6, xs(), xs())}},
		{"the younger is not told as yet", onceOf(from(3, 4), "x"), []told{one(0, xs(1), xs()), one(3, xs(1), xs(1)), one(4, xs(), xs(1)), one(5, xs(), xs()), one(6, xs(), xs(1)), one(7, xs(), xs(1)), one(8, xs(), xs())}},
		{"the older one alone is told, then both", onceOf(from(3, 9), "x"), []told{one(0, xs(1), xs()), one(2, xs(1), xs()), one(3, xs(), xs(1)), one(9, xs(), xs(1)), one(10, xs(), xs(1)), one(11, xs(), xs(1)), one(12, xs(), xs())}},
		{"three times, over both ends", onceOf(from(1, 2), "x"), []told{one(0, xs(1), xs()), one(4, xs(1), xs()), one(5, xs(1), xs(1)), one(6, xs(), xs(1)), one(7, xs(), xs(1)), one(8, xs(), xs())}},
		{"no variables", onceOf(from(1, 2), ""), []told{one(0, yes(), no()), one(1, no(), yes()), one(2, no(), yes()), one(3, yes(), no()), one(4, yes(), yes()), one(7, no(), no())}},
		{"two variables, told in another order", onceOf(from(0, 1), "yx"), []told{one(0, ints("xy", 1, 2), ints("xy", 1, 2)), one(1, ints("xy", 1, 1, 2, 1), ints("xy", 1, 1, 1, 2, 2, 1)), one(2, ints("xy"), ints("xy", 1, 1, 2, 1))}},
		{"eight variables", onceOf(from(0, 1), eight), []told{one(0, ints(eight, many[8:]...), ints(eight, many[8:]...)), one(1, ints(eight, many[:8]...), ints(eight, many...)), one(2, ints(eight), ints(eight, many[:8]...))}},
		{"no rows", onceOf(open(0), "x"), []told{one(0, xs(), xs()), one(0, xs(), xs()), one(last, xs(), xs())}},
	})
}

// TestOnceKinds: P13.2: rows of all kinds stay apart and stand in their order.
func TestOnceKinds(t *testing.T) {
	p := onceOf(open(0), "x").must(t)
	full := strings.Repeat("x", api.MaxText)
	run(t, p,
		one(0, put(names("x"), row(str(""))), put(names("x"), row(str("")))),
		one(1, put(names("x"), row(num(1)), row(rat(1, 1)), row(str("1"))), put(names("x"), row(num(1)), row(rat(1, 1)), row(str("")), row(str("1")))),
		one(2, put(names("x"), row(num(math.MinInt64)), row(rat(-1, 2)), row(str("\x00")), row(str(full))),
			put(names("x"), row(num(math.MinInt64)), row(num(1)), row(rat(-1, 2)), row(rat(1, 1)), row(str("")), row(str("\x00")), row(str("1")), row(str(full)))))
}

// TestSince: P13.2: rows come, are carried on by left, or let go, and come again.
func TestSince(t *testing.T) {
	runAll(t, []way{
		{"comes, is held, is let go, comes again", sinceOf(open(0), "x", "x"), []told{two(0, xs(), xs(1), xs(1)), two(1, xs(1), xs(), xs(1)), two(2, xs(), xs(), xs()), two(3, xs(1), xs(), xs()), two(4, xs(), xs(1), xs(1)), two(5, xs(1), xs(), xs(1))}},
		{"the same, not", notSinceOf(open(0), "x", "x"), []told{two(0, xs(), xs(1), xs(1)), two(1, xs(), xs(), xs(1)), two(2, xs(1), xs(), xs()), two(3, xs(), xs(), xs()), two(4, xs(1), xs(1), xs(1)), two(5, xs(2), xs(), xs(1))}},
		{"let go and come at one point, from a later time on", sinceOf(from(2, 9), "x", "x"), []told{two(0, xs(), xs(1), xs()), two(1, xs(), xs(1), xs()), two(2, xs(1), xs(), xs()), two(3, xs(1), xs(), xs(1)), two(10, xs(1), xs(), xs(1)), two(11, xs(1), xs(), xs())}},
		{"the same, not", notSinceOf(from(2, 9), "x", "x"), []told{two(0, xs(), xs(1), xs()), two(1, xs(1), xs(1), xs()), two(2, xs(), xs(), xs()), two(3, xs(), xs(), xs(1)), two(10, xs(), xs(), xs(1)), two(11, xs(), xs(), xs())}},
		{"let go while it is told and come again", notSinceOf(from(2, 9), "x", "x"), []told{two(0, xs(), xs(1), xs()), two(2, xs(), xs(), xs(1)), two(3, xs(1), xs(1), xs()), two(4, xs(), xs(), xs()), two(5, xs(), xs(), xs(1)), two(12, xs(), xs(), xs(1)), two(13, xs(), xs(), xs())}},
		{"let go again and again", notSinceOf(from(2, 2), "x", "x"), []told{two(0, xs(), xs(1, 2), xs()), two(1, xs(1), xs(1), xs()), two(2, xs(1), xs(1), xs(2)), two(3, xs(1), xs(1), xs()), two(4, xs(), xs(), xs()), two(5, xs(), xs(), xs(1)), two(6, xs(), xs(), xs())}},
		{"let go at the same time", sinceOf(from(0, 0), "x", "x"), []told{two(5, xs(), xs(1, 2), xs(1, 2)), two(5, xs(2), xs(3), xs(2, 3)), two(5, xs(), xs(), xs()), two(6, xs(2, 3), xs(), xs())}},
		{"left at its own point", sinceOf(open(0), "x", "x"), []told{two(0, xs(1), xs(1), xs(1)), two(0, xs(2), xs(2), xs(2))}},
		{"not, left at its own point", notSinceOf(open(0), "x", "x"), []told{two(0, xs(1), xs(1), xs(1)), two(0, xs(2), xs(2), xs(1, 2)), two(1, xs(1, 2), xs(1), xs(1))}},
		{"left of no variables", sinceOf(open(0), "", "x"), []told{two(0, no(), xs(1), xs(1)), two(1, yes(), xs(2), xs(1, 2)), two(2, no(), xs(3), xs(3)), two(3, no(), xs(), xs())}},
		{"not, left of no variables", notSinceOf(open(0), "", "x"), []told{two(0, yes(), xs(1), xs(1)), two(1, no(), xs(2), xs(1, 2)), two(2, yes(), xs(3), xs(3)), two(3, yes(), xs(), xs())}},
		{"no variables", sinceOf(from(1, 2), "", ""), []told{two(0, no(), yes(), no()), two(1, yes(), no(), yes()), two(1, no(), no(), no()), two(2, yes(), yes(), no()), two(3, yes(), no(), yes()), two(4, yes(), no(), yes()), two(5, yes(), no(), no())}},
		{"left of the first variable", sinceOf(open(0), "x", "yx"), []told{two(0, xs(), ints("xy", 1, 1, 1, 2, 2, 1), ints("xy", 1, 1, 1, 2, 2, 1)), two(1, xs(1), ints("xy", 3, 3), ints("xy", 1, 1, 1, 2, 3, 3)), two(2, xs(2, 3), ints("xy"), ints("xy", 3, 3))}},
		{"left of the last variable", sinceOf(open(0), "y", "xy"), []told{two(0, ints("y"), ints("xy", 1, 1, 1, 2, 2, 1), ints("xy", 1, 1, 1, 2, 2, 1)), two(1, ints("y", 1), ints("xy", 3, 3), ints("xy", 1, 1, 2, 1, 3, 3)), two(2, ints("y", 2, 3), ints("xy"), ints("xy", 3, 3))}},
		{"not, left of the last variable", notSinceOf(open(0), "y", "yx"), []told{two(0, ints("y"), ints("xy", 1, 1, 1, 2, 2, 1), ints("xy", 1, 1, 1, 2, 2, 1)), two(1, ints("y", 1), ints("xy", 3, 3), ints("xy", 1, 2, 3, 3)), two(2, ints("y", 2, 3), ints("xy", 0, 2), ints("xy", 0, 2))}},
		{"left of all variables, in another order", sinceOf(open(0), "yx", "xy"), []told{two(0, ints("xy"), ints("xy", 1, 2, 2, 1), ints("xy", 1, 2, 2, 1)), two(1, ints("xy", 1, 2, 3, 3), ints("xy"), ints("xy", 1, 2))}},
		{"left of some, in another order", sinceOf(from(0, 5), "ca", "bdca"), []told{two(0, ints("ac"), ints("abcd", 1, 2, 3, 4, 3, 2, 1, 4), ints("abcd", 1, 2, 3, 4, 3, 2, 1, 4)), two(5, ints("ac", 1, 3), ints("abcd"), ints("abcd", 1, 2, 3, 4)), two(6, ints("ac", 1, 3), ints("abcd"), ints("abcd"))}},
		{"the younger lasts longer", sinceOf(from(0, 3), "", "x"), []told{two(0, no(), xs(1, 2), xs(1, 2)), two(2, yes(), xs(1), xs(1, 2)), two(3, yes(), xs(), xs(1, 2)), two(4, yes(), xs(), xs(1)), two(5, yes(), xs(), xs(1)), two(6, yes(), xs(), xs())}},
		{"both go together", notSinceOf(from(1, 3), "x", "x"), []told{two(0, xs(), xs(1), xs()), two(2, xs(), xs(1), xs(1)), two(3, xs(1), xs(), xs()), two(4, xs(), xs(), xs())}},
		{"let go while it waits", notSinceOf(open(5), "x", "x"), []told{two(0, xs(), xs(1, 2), xs()), two(1, xs(1), xs(), xs()), two(5, xs(), xs(), xs(2)), two(6, xs(), xs(1), xs(2)), two(11, xs(), xs(), xs(1, 2))}},
		{"the greatest time", notSinceOf(from(last, last), "x", "x"), []told{two(0, xs(), xs(1, 2, 3), xs()), two(0, xs(1), xs(1), xs()), two(1, xs(2), xs(2), xs()), two(last, xs(), xs(4), xs(1, 3)), two(last, xs(3), xs(), xs(1))}},
		{"far apart", sinceOf(from(1, 9), "x", "x"), []told{two(0, xs(), xs(1), xs()), two(10, xs(1), xs(2), xs()), two(last, xs(1, 2), xs(), xs())}},
		{"no rows at the left", notSinceOf(from(0, 1), "x", "x"), []told{two(0, xs(), xs(1), xs(1)), two(1, xs(), xs(2), xs(1, 2)), two(2, xs(), xs(), xs(2))}},
		{"no rows at the right", sinceOf(open(0), "x", "x"), []told{two(0, xs(1), xs(), xs()), two(1, xs(1), xs(), xs())}},
		{"no rows at all", sinceOf(open(0), "x", "x"), []told{two(0, xs(), xs(), xs()), two(1, xs(), xs(), xs())}},
	})
}

// TestSinceEight: P13.2: as many variables as may be, left with each of them by itself and with all but one.
func TestSinceEight(t *testing.T) {
	const vars = "abcdefgh"
	a, b := []int64{1, 2, 3, 4, 5, 6, 7, 8}, []int64{2, 3, 4, 5, 6, 7, 8, 9}
	all := ints(vars, slices.Concat(a, b)...)
	for i := range vars {
		alone, others := vars[i:i+1], vars[:i]+vars[i+1:]
		rest := slices.Concat(a[:i], a[i+1:])
		for _, not := range []bool{false, true} {
			first, second := ints(vars, a...), ints(vars, b...)
			if not {
				first, second = second, first
			}
			o := sinceOf(from(0, 9), alone, vars)
			o.not = not
			run(t, o.must(t), two(0, ints(alone), all, all), two(1, ints(alone, a[i]), ints(vars), first))
			run(t, o.must(t), two(0, ints(alone), all, all), two(1, ints(alone, b[i]), ints(vars), second))
			o = sinceOf(from(0, 9), others, vars)
			o.not = not
			run(t, o.must(t), two(0, ints(others), all, all), two(1, ints(others, rest...), ints(vars), first))
		}
	}
}

// operators are one of each kind, all of x, at an interval.
func operators(i api.Interval) []operator {
	return []operator{prevOf(i, "x"), onceOf(i, "x"), sinceOf(i, "x", "x"), notSinceOf(i, "x", "x")}
}

// TestIntervals: P13.1: those that may be, up to their edges, and those that may not.
func TestIntervals(t *testing.T) {
	edges := []int64{math.MinInt64, -last, -1, 0, 1, 5, last - 1, last, last + 1, math.MaxInt64}
	for _, lo := range edges {
		for _, hi := range edges {
			for _, i := range []api.Interval{{Lo: lo, Hi: hi}, {Lo: lo, Hi: hi, Open: true}} {
				good := lo >= 0 && lo <= last && (i.Open && hi == 0 || !i.Open && lo <= hi && hi <= last)
				for _, o := range operators(i) {
					if good {
						o.must(t)
					} else {
						o.refused(t, api.ErrArg)
					}
				}
			}
		}
	}
}

// TestVars: P13.1: variables that table.Empty refuses, of each part and of both; left ones that are none of right.
func TestVars(t *testing.T) {
	twice, nine, far := names("x", "x"), letters("abcdefghi"), names("a", "b", "a")
	for _, bad := range [][]string{twice, nine, far, slices.Repeat(names("x"), 1000), names("", "")} {
		for _, kind := range []int{prev, once} {
			operator{kind: kind, right: bad}.refused(t, api.ErrVars)
			operator{kind: kind, i: from(2, 1), right: bad}.refused(t, api.ErrArg)
		}
		for _, not := range []bool{false, true} {
			for _, parts := range [][2][]string{{bad, names("x")}, {names("x"), bad}, {nil, bad}, {bad, nil}, {bad, bad}, {bad, twice}, {bad, letters("abcdefgh")}} {
				operator{since, from(0, 1), not, parts[0], parts[1]}.refused(t, api.ErrVars)
				operator{since, from(2, 1), not, parts[0], parts[1]}.refused(t, api.ErrArg)
				operator{since, api.Interval{Hi: 1, Open: true}, not, parts[0], parts[1]}.refused(t, api.ErrArg)
			}
		}
	}
	for _, parts := range [][2]string{{"y", "x"}, {"x", ""}, {"xy", "x"}, {"yx", "x"}, {"x", "abcdefgh"}, {"abcdefgh", "abcdefg"}, {"abcz", "abcd"}} {
		for _, not := range []bool{false, true} {
			operator{since, from(0, 1), not, letters(parts[0]), letters(parts[1])}.refused(t, api.ErrVars)
			operator{since, from(-1, 1), not, letters(parts[0]), letters(parts[1])}.refused(t, api.ErrArg)
		}
	}
	operator{since, from(0, 1), false, names("X"), names("x")}.refused(t, api.ErrVars)
	operator{since, from(0, 1), false, names(""), names("x")}.refused(t, api.ErrVars)
}

// TestVarsOfAnyText: P13.1: table looks at no name, and tells variables in their order, byte by byte.
func TestVarsOfAnyText(t *testing.T) {
	odd := names("\xff", "not", "", "X", strings.Repeat("v", 100), "\x00", "x y")
	sorted := slices.Sorted(slices.Values(odd))
	full := put(sorted, slices.Repeat(row(num(1)), 7))
	for _, kind := range []int{prev, once} {
		p := operator{kind: kind, i: open(0), right: odd}.must(t)
		p.Step(0, []api.Table{full})
		step(t, p, at(1, put(sorted)), full, api.OK)
	}
	p := operator{kind: since, i: open(0), left: names("not", ""), right: odd}.must(t)
	run(t, p, two(0, put(names("", "not")), full, full), two(1, put(names("", "not"), row(num(1), num(1))), put(sorted), full), two(2, put(names("", "not"), row(num(1), num(2))), put(sorted), put(sorted)))
}

// TestNoVars: rule R3, no list of variables and an empty one are the same; so are a table's without rows and its row without values.
func TestNoVars(t *testing.T) {
	for _, none := range [][]string{nil, {}} {
		for _, l := range [][][]api.Value{{nil}, {{}}} {
			for _, kind := range []int{prev, once, since} {
				p := operator{kind: kind, i: open(0), left: none, right: none}.must(t)
				tables := []api.Table{{Vars: none, Rows: l}}
				empty := []api.Table{{Vars: none, Rows: [][]api.Value{}}}
				if kind == since {
					tables, empty = append(tables, tables...), append(tables[:1:1], empty...)
				}
				p.Step(0, tables)
				step(t, p, point{1, empty}, yes(), api.OK)
			}
		}
	}
}
