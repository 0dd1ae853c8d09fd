package match_test

import (
	"slices"
	"strings"
	"testing"

	"custos/api"
	"custos/match"
	"custos/syntax"
)

const last = api.MaxTime

func num(n int64) api.Value { return api.Value{Kind: api.Int, N: n} }

func rat(n, d int64) api.Value { return api.Value{Kind: api.Rat, N: n, D: d} }

func str(s string) api.Value { return api.Value{Kind: api.Str, S: s} }

func row(l ...api.Value) []api.Value { return l }

func names(l ...string) []string { return l }

func put(vars []string, rows ...[]api.Value) api.Table { return api.Table{Vars: vars, Rows: rows} }

// letters is a variable for each letter.
func letters(vars string) []string { return slices.Collect(strings.SplitSeq(vars, ""))[:len(vars)] }

// ints is a table of a letter of vars for each variable, as many Ints in a row as there are of them.
func ints(vars string, l ...int64) api.Table {
	t := put(letters(vars))
	for each := range slices.Chunk(l, max(1, len(vars))) {
		var r []api.Value
		for _, n := range each {
			r = append(r, num(n))
		}
		t.Rows = append(t.Rows, r)
	}
	return t
}

// xs is a table of x; yes and no are those without variables.
func xs(l ...int64) api.Table { return ints("x", l...) }

func yes() api.Table { return put(nil, row()) }

func no() api.Table { return put(nil) }

func alike(a, b api.Table) bool {
	return slices.Equal(a.Vars, b.Vars) && slices.EqualFunc(a.Rows, b.Rows, slices.Equal)
}

func allAlike(a, b []api.Verdict) bool {
	return slices.EqualFunc(a, b, func(v, w api.Verdict) bool {
		return v.At == w.At && v.Time == w.Time && alike(v.Table, w.Table)
	})
}

func from(lo, hi int64) api.Interval { return api.Interval{Lo: lo, Hi: hi} }

func open(lo int64) api.Interval { return api.Interval{Lo: lo, Open: true} }

// regex is that of a text; p, q .. are of x, pxy is of x and y, c is of no variables.
func regex(text string) api.Regex {
	words := strings.NewReplacer("p.", "(test (p x))", "q.", "(test (q x))", "pxy", "(test (p x y))", "py", "(test (p y))", "qz", "(test (q z))", "c.", "(test (c))", "d.", "(test (d))")
	f, e, at := syntax.Parse("(before [0,0] " + words.Replace(text) + ")")
	if e != api.OK {
		panic(text + " is no regex at " + text[max(0, min(at, len(text)-1)):])
	}
	return f.Regex[0]
}

// operator is what is asked of Before or After.
type operator struct {
	after bool
	i     api.Interval
	r     api.Regex
}

func before(i api.Interval, text string) operator { return operator{i: i, r: regex(text)} }

func after(i api.Interval, text string) operator { return operator{after: true, i: i, r: regex(text)} }

func (o operator) formula() api.Formula {
	kind := api.Before
	if o.after {
		kind = api.After
	}
	return api.Formula{Kind: kind, I: o.i, Regex: []api.Regex{o.r}}
}

func (o operator) String() string {
	s, _ := syntax.Print(o.formula())
	return s
}

func (o operator) made() (*match.Match, api.Errno) {
	if o.after {
		return match.After(o.i, o.r)
	}
	return match.Before(o.i, o.r)
}

func (o operator) must(t *testing.T) *match.Match {
	t.Helper()
	m, e := o.made()
	if m == nil || e != api.OK {
		t.Fatalf("%v: %d", o, e)
	}
	return m
}

// point is what is told at a time.
type point struct {
	time  int64
	tests []api.Table
}

func at(time int64, tests ...api.Table) point { return point{time, tests} }

// told is a point and the tables that must be told there.
type told struct {
	point
	wants []api.Table
}

func (x point) tells(wants ...api.Table) told { return told{x, wants} }

// step sees what a Step tells, and that so many points wait behind it.
func step(t *testing.T, m *match.Match, x point, want []api.Verdict, e api.Errno, waits int) {
	t.Helper()
	if got, g := m.Step(x.time, x.tests); g != e || !allAlike(got, want) {
		t.Errorf("Step(%d, %v) is %v, %d, not %v, %d", x.time, x.tests, got, g, want, e)
	}
	if m.Waits() != waits {
		t.Errorf("behind Step(%d, %v) %d wait, not %d", x.time, x.tests, m.Waits(), waits)
	}
}

// run tells points from the beginning on, and sees that the answers are those of the points 0, 1, 2 ..
func run(t *testing.T, m *match.Match, l ...told) {
	t.Helper()
	if m.Waits() != 0 {
		t.Errorf("at the beginning %d wait", m.Waits())
	}
	goOn(t, m, nil, l...)
}

// goOn is run behind points that have come.
func goOn(t *testing.T, m *match.Match, come []told, l ...told) {
	t.Helper()
	n, all := 0, slices.Concat(come, l)
	for _, x := range come {
		n += len(x.wants)
	}
	for i, x := range l {
		var want []api.Verdict
		for _, w := range x.wants {
			want = append(want, api.Verdict{At: n, Time: all[n].time, Table: w})
			n++
		}
		// Of Before each point is told as it comes: none waits.
		step(t, m, x.point, want, api.OK, len(come)+i+1-n)
	}
}

type way struct {
	name string
	operator
	l []told
}

func runAll(t *testing.T, l []way) {
	t.Helper()
	for _, c := range l {
		t.Run(c.name, func(t *testing.T) { run(t, c.must(t), c.l...) })
	}
}

// TestExamples: the chapter's.
func TestExamples(t *testing.T) {
	const r = "(seq p. (seq any q.))"
	a, b, c, d := at(0, xs(1, 2), xs()), at(1, xs(3), xs(2, 3)), at(1, xs(), xs(3)), at(20, xs(), xs())
	runAll(t, []way{
		{"before", before(from(0, 9), r), []told{a.tells(xs()), b.tells(xs(2)), c.tells(xs(3))}},
		{"after", after(from(0, 9), r), []told{a.tells(), b.tells(), c.tells(), d.tells(xs(2), xs(3), xs())}},
		{"after, at one time", after(from(0, 0), r), []told{a.tells(), b.tells(xs()), c.tells(), d.tells(xs(3), xs())}},
	})
	refused(t, before(from(0, 9), "(star p.)"), api.ErrGuard)
}

// TestKindsBefore: P15.3: each kind of regex by itself, and within others.
func TestKindsBefore(t *testing.T) {
	all := open(0)
	bools := func(wants ...api.Table) []told {
		var l []told
		for n, w := range wants {
			l = append(l, at(int64(n)).tells(w))
		}
		return l
	}
	// tested is points with a closed test's tables, and what is told.
	tested := func(tables, wants []api.Table) []told {
		var l []told
		for n, w := range wants {
			l = append(l, at(int64(n), tables[n]).tells(w))
		}
		return l
	}
	y, n := yes(), no()
	three := []told{at(0, xs(1)).tells(xs(1)), at(1, xs()).tells(xs()), at(1, xs(2, 3)).tells(xs(2, 3))}
	runAll(t, []way{
		{"any", before(all, "any"), bools(n, y, y)},
		{"any, at this time alone", before(from(0, 0), "any"), []told{at(0).tells(n), at(1).tells(n), at(1).tells(y), at(2).tells(n)}},
		{"test", before(all, "p."), three},
		{"alt of any and a star", before(all, "(alt any (star any))"), bools(y, y, y)},
		{"alt of a test and a step", before(all, "(alt c. any)"), tested([]api.Table{n, n, y}, []api.Table{n, y, y})},
		{"alt of tests", before(all, "(alt p. q.)"), []told{at(0, xs(1, 2), xs(2, 3)).tells(xs(1, 2, 3)), at(1, xs(), xs(5)).tells(xs(5)), at(2, xs(), xs()).tells(xs())}},
		{"seq of steps", before(all, "(seq any any)"), bools(n, n, y, y)},
		{"seq of tests at one point", before(all, "(seq p. q.)"), []told{at(0, xs(1, 2), xs(2, 3)).tells(xs(2)), at(0, xs(3), xs()).tells(xs()), at(0, xs(), xs(3)).tells(xs())}},
		{"star", before(from(1, 9), "(star any)"), bools(n, y, y)},
		{"star of a test and a step", before(from(2, 2), "(star (seq c. any))"), tested([]api.Table{y, y, n, y, y, n}, []api.Table{n, n, y, n, n, y})},
		{"star of two steps", before(from(3, 4), "(star (seq any any))"), bools(n, n, n, n, y, y)},
		{"star of two steps, an odd way", before(from(3, 3), "(star (seq any any))"), bools(n, n, n, n, n, n)},
		{"star of a star", before(from(3, 3), "(star (star any))"), bools(n, n, n, y, y)},
		{"star of a star of two steps", before(from(1, 3), "(star (star (seq any any)))"), bools(n, n, y, y, y)},
		{"star of an alt", before(from(5, 5), "(star (alt (seq any any) (seq any (seq any any))))"), bools(n, n, n, n, n, y, y)},
		{"star of an alt, never so", before(from(1, 1), "(star (alt (seq any any) (seq any (seq any any))))"), bools(n, n, n, n)},
		{"star of a test", before(from(1, 9), "(star c.)"), tested([]api.Table{y, y, y}, []api.Table{n, n, n})},
		{"star of a test, at this point", before(from(0, 9), "(star c.)"), tested([]api.Table{n, y, n}, []api.Table{y, y, y})},
		{"star of a star of a test", before(from(0, 9), "(star (star c.))"), tested([]api.Table{n, y, n}, []api.Table{y, y, y})},
		{"star of an alt of a test and a step", before(from(2, 2), "(star (alt c. any))"), tested([]api.Table{n, y, n}, []api.Table{n, n, y})},
		{"seq of stars", before(from(2, 2), "(seq (star (seq c. any)) (star any))"), tested([]api.Table{n, y, n}, []api.Table{n, n, y})},
		{"seq of stars with a test between", before(from(3, 3), "(seq (star any) (seq p. (star any)))"), []told{at(0, xs(1)).tells(xs()), at(1, xs()).tells(xs()), at(2, xs(2)).tells(xs()), at(3, xs(3)).tells(xs(1, 2, 3)), at(4, xs()).tells(xs(2, 3))}},
		{"star between tests", before(from(0, 1), "(seq p. (seq (star any) q.))"), []told{at(0, xs(1), xs(1)).tells(xs(1)), at(1, xs(2), xs(1)).tells(xs(1)), at(1, xs(), xs(1, 2)).tells(xs(1, 2)), at(2, xs(), xs(1, 2)).tells(xs(2))}},
	})
}

// TestAlways: P15.3: a star by itself tells that there are points within the interval.
func TestAlways(t *testing.T) {
	y, n := yes(), no()
	runAll(t, []way{
		{"[0,0]", before(from(0, 0), "(star any)"), []told{at(0).tells(y), at(last).tells(y), at(last).tells(y)}},
		{"[a,a]", before(from(3, 3), "(star any)"), []told{at(0).tells(n), at(2).tells(n), at(3).tells(y), at(4).tells(n), at(5).tells(y), at(5).tells(y), at(8).tells(y), at(12).tells(n)}},
		{"between", before(from(2, 4), "(star any)"), []told{at(0).tells(n), at(1).tells(n), at(2).tells(y), at(5).tells(y), at(6).tells(y), at(7).tells(y), at(20).tells(n), at(20).tells(n), at(22).tells(y), at(25).tells(y)}},
		{"open", before(open(5), "(star any)"), []told{at(1).tells(n), at(5).tells(n), at(6).tells(y), at(6).tells(y), at(last).tells(y)}},
		{"the greatest time", before(from(last, last), "(star any)"), []told{at(0).tells(n), at(0).tells(n), at(last - 1).tells(n), at(last).tells(y), at(last).tells(y)}},
		{"the greatest time, open", before(open(last), "(star any)"), []told{at(0).tells(n), at(1).tells(n), at(last).tells(y), at(last).tells(y)}},
		{"the greatest time, too late a beginning", before(open(last), "(star any)"), []told{at(1).tells(n), at(last).tells(n)}},
		{"nearly the greatest time", before(from(last-1, last), "(star any)"), []told{at(1).tells(n), at(2).tells(n), at(last).tells(y)}},
	})
}

// TestBefore: P15.3: rows come and go, at the edges of the interval.
func TestBefore(t *testing.T) {
	const r = "(seq p. (star any))"
	runAll(t, []way{
		{"[0,0]", before(from(0, 0), r), []told{at(0, xs(1)).tells(xs(1)), at(0, xs(2)).tells(xs(1, 2)), at(1, xs()).tells(xs()), at(1, xs(3)).tells(xs(3)), at(1, xs()).tells(xs(3))}},
		{"[a,a]", before(from(2, 2), r), []told{at(0, xs(1)).tells(xs()), at(0, xs(2)).tells(xs()), at(1, xs(3)).tells(xs()), at(2, xs()).tells(xs(1, 2)), at(3, xs()).tells(xs(3)), at(4, xs()).tells(xs())}},
		{"up to the edge", before(from(1, 3), r), []told{at(0, xs(1)).tells(xs()), at(1, xs()).tells(xs(1)), at(3, xs(2)).tells(xs(1)), at(4, xs()).tells(xs(2)), at(6, xs()).tells(xs(2)), at(7, xs()).tells(xs())}},
		{"comes again", before(from(0, 2), r), []told{at(0, xs(1)).tells(xs(1)), at(2, xs(1)).tells(xs(1)), at(4, xs()).tells(xs(1)), at(5, xs()).tells(xs()), at(6, xs(1)).tells(xs(1))}},
		{"comes again, not old enough as yet", before(from(2, 3), r), []told{at(0, xs(1)).tells(xs()), at(3, xs(1)).tells(xs(1)), at(4, xs()).tells(xs()), at(5, xs()).tells(xs(1)), at(6, xs()).tells(xs(1)), at(7, xs()).tells(xs())}},
		{"open", before(open(0), r), []told{at(0, xs(1)).tells(xs(1)), at(5, xs(2)).tells(xs(1, 2)), at(last, xs(3)).tells(xs(1, 2, 3)), at(last, xs()).tells(xs(1, 2, 3))}},
		{"open, from a time on", before(open(2), r), []told{at(0, xs(1)).tells(xs()), at(1, xs(2)).tells(xs()), at(2, xs()).tells(xs(1)), at(3, xs(1)).tells(xs(1, 2)), at(last, xs(4)).tells(xs(1, 2)), at(last, xs()).tells(xs(1, 2))}},
		{"far apart", before(from(0, 9), r), []told{at(0, xs(1)).tells(xs(1)), at(10, xs()).tells(xs()), at(11, xs(2)).tells(xs(2)), at(20, xs()).tells(xs(2)), at(last, xs()).tells(xs())}},
		{"far apart, none within", before(from(5, 9), r), []told{at(0, xs(1)).tells(xs()), at(10, xs(1)).tells(xs()), at(100, xs(1)).tells(xs()), at(last, xs(1)).tells(xs())}},
		{"the greatest time", before(from(last, last), r), []told{at(0, xs(1)).tells(xs()), at(1, xs(2)).tells(xs()), at(last, xs(3)).tells(xs(1)), at(last, xs()).tells(xs(1))}},
		{"up to the greatest time", before(from(1, last), r), []told{at(0, xs(1)).tells(xs()), at(last-1, xs(2)).tells(xs(1)), at(last, xs(3)).tells(xs(1, 2)), at(last, xs()).tells(xs(1, 2))}},
		{"times at MaxTime alone", before(from(0, 0), r), []told{at(last, xs(1)).tells(xs(1)), at(last, xs(2)).tells(xs(1, 2))}},
		{"no rows", before(open(0), r), []told{at(0, xs()).tells(xs()), at(0, xs()).tells(xs()), at(7, xs()).tells(xs())}},
	})
}

// TestAfter: P15.3: points wait as long as they can be told more, and are told one by one, or many at once.
func TestAfter(t *testing.T) {
	const r = "(seq (star any) p.)"
	runAll(t, []way{
		{"[0,0]", after(from(0, 0), r), []told{at(0, xs(1)).tells(), at(0, xs(2)).tells(), at(0, xs()).tells(), at(1, xs(3)).tells(xs(1, 2), xs(2), xs()), at(2, xs()).tells(xs(3))}},
		{"[a,a]", after(from(3, 3), r), []told{at(0, xs(1)).tells(), at(1, xs(9)).tells(), at(2, xs()).tells(), at(3, xs(1, 2)).tells(), at(4, xs(3)).tells(xs(1, 2)), at(5, xs()).tells(xs(3)), at(6, xs(4)).tells(xs()), at(7, xs()).tells(xs(4))}},
		{"at the same time, none is settled", after(from(0, 0), r), []told{at(5, xs(1)).tells(), at(5, xs()).tells(), at(5, xs(2)).tells(), at(5, xs(3)).tells(), at(5, xs()).tells()}},
		{"at the same time, later ones alone", after(from(1, 3), r), []told{at(0, xs(1)).tells(), at(0, xs(2)).tells(), at(1, xs(3)).tells(), at(1, xs(4)).tells(), at(4, xs(5)).tells(xs(3, 4), xs(3, 4))}},
		{"one settles many", after(from(1, 2), r), []told{at(0, xs(1)).tells(), at(1, xs(2)).tells(), at(2, xs(3)).tells(), at(3, xs(4)).tells(xs(2, 3)), at(100, xs(9)).tells(xs(3, 4), xs(4), xs())}},
		{"far apart", after(from(0, 9), r), []told{at(0, xs(1, 2)).tells(), at(10, xs()).tells(xs(1, 2)), at(11, xs(2)).tells(), at(last, xs()).tells(xs(2), xs(2))}},
		{"far apart, never within", after(from(5, 9), r), []told{at(0, xs(1)).tells(), at(10, xs(1)).tells(xs()), at(100, xs(1)).tells(xs()), at(last, xs(1)).tells(xs())}},
		{"as great as can be settled", after(from(0, last-1), r), []told{at(0, xs(1)).tells(), at(1, xs(2)).tells(), at(last-1, xs(3)).tells(), at(last, xs(4)).tells(xs(1, 2, 3)), at(last, xs(5)).tells()}},
		{"that time alone", after(from(last-1, last-1), r), []told{at(0, xs(1)).tells(), at(1, xs()).tells(), at(last-1, xs(2)).tells(), at(last-1, xs(3)).tells(), at(last, xs(4)).tells(xs(2, 3)), at(last, xs(5)).tells()}},
		{"no time is above the first", after(from(0, last), r), []told{at(0, xs(1)).tells(), at(0, xs(2)).tells(), at(7, xs(3)).tells(), at(last, xs(4)).tells(), at(last, xs(5)).tells()}},
		{"no time is above any", after(from(last, last), r), []told{at(0, xs(1)).tells(), at(last, xs(2)).tells(), at(last, xs(3)).tells()}},
		{"no time is above one at MaxTime", after(from(0, 0), r), []told{at(last-1, xs(1)).tells(), at(last, xs(2)).tells(xs(1)), at(last, xs(3)).tells(), at(last, xs(4)).tells()}},
		{"no rows", after(from(0, 5), r), []told{at(0, xs()).tells(), at(0, xs()).tells(), at(last, xs()).tells(xs(), xs())}},
	})
}

// TestKindsAfter: P15.3: each kind of regex by itself, and within others.
func TestKindsAfter(t *testing.T) {
	y, n := yes(), no()
	end := at(50)
	runAll(t, []way{
		{"any", after(from(0, 2), "any"), []told{at(0).tells(), at(2).tells(), at(5).tells(y, n), at(5).tells(), end.tells(y, n)}},
		{"test", after(from(0, 2), "p."), []told{at(0, xs(1)).tells(), at(1, xs(2)).tells(), at(3, xs()).tells(xs(1)), at(4, xs(3)).tells(xs(2)), at(50, xs()).tells(xs(), xs(3))}},
		{"test, never here", after(from(1, 2), "p."), []told{at(0, xs(1)).tells(), at(1, xs(2)).tells(), at(3, xs()).tells(xs())}},
		{"alt", after(from(0, 1), "(alt p. (seq any q.))"), []told{at(0, xs(1), xs(9)).tells(), at(1, xs(3), xs(2)).tells(), at(2, xs(), xs(4)).tells(xs(1, 2)), at(50, xs(), xs()).tells(xs(3, 4), xs())}},
		{"seq", after(from(0, 9), "(seq any (seq p. any))"), []told{at(0, xs(1)).tells(), at(1, xs(2)).tells(), at(2, xs(3)).tells(), at(50, xs()).tells(xs(2), xs(), xs())}},
		{"star", after(from(2, 3), "(star any)"), []told{at(0).tells(), at(1).tells(), at(3).tells(), at(4).tells(y), end.tells(y, n, n)}},
		{"star of two steps", after(from(0, 9), "(seq (star (seq any any)) p.)"), []told{at(0, xs(1)).tells(), at(1, xs(2)).tells(), at(2, xs(3)).tells(), at(3, xs(4)).tells(), at(50, xs()).tells(xs(1, 3), xs(2, 4), xs(3), xs(4))}},
		{"star of a test and a step", after(from(0, 9), "(seq (star (seq c. any)) p.)"), []told{at(0, y, xs(1)).tells(), at(1, n, xs(2)).tells(), at(2, y, xs(3)).tells(), at(3, y, xs(4)).tells(), at(50, n, xs()).tells(xs(1, 2), xs(2), xs(3, 4), xs(4))}},
		{"star of a star", after(from(1, 9), "(star (star any))"), []told{at(0).tells(), at(0).tells(), at(1).tells(), end.tells(y, y, n)}},
		{"star of an alt", after(from(0, 9), "(seq (star (alt (seq any any) (seq any (seq any any)))) p.)"), []told{at(0, xs(1)).tells(), at(0, xs(2)).tells(), at(0, xs(3)).tells(), at(0, xs(4)).tells(), at(0, xs(5)).tells(), at(50, xs()).tells(xs(1, 3, 4, 5), xs(2, 4, 5), xs(3, 5), xs(4), xs(5))}},
		{"star that matches nothing", after(from(0, 9), "(star c.)"), []told{at(0, n).tells(), at(1, y).tells(), at(50, n).tells(y, y)}},
		{"star that matches nothing, later", after(from(1, 9), "(star c.)"), []told{at(0, y).tells(), at(1, y).tells(), at(50, n).tells(n, n)}},
	})
}

// TestVars: P15.3: tests of no variables, of some of the others', of eight; the same variables told by several tests.
func TestVars(t *testing.T) {
	const eight = "abcdefgh"
	full := ints(eight, 1, 2, 3, 4, 5, 6, 7, 8)
	xy := func(l ...int64) api.Table { return ints("xy", l...) }
	ys, zs := func(l ...int64) api.Table { return ints("y", l...) }, func(l ...int64) api.Table { return ints("z", l...) }
	xyz := func(l ...int64) api.Table { return ints("xyz", l...) }
	runAll(t, []way{
		{"none", before(from(0, 9), "(seq c. (seq any d.))"), []told{at(0, yes(), no()).tells(no()), at(1, no(), yes()).tells(yes()), at(2, yes(), yes()).tells(no()), at(3, no(), no()).tells(no())}},
		{"none beside some", before(from(0, 9), "(seq p. (seq any c.))"), []told{at(0, xs(1), no()).tells(xs()), at(1, xs(2), yes()).tells(xs(1)), at(2, xs(), no()).tells(xs()), at(3, xs(), yes()).tells(xs())}},
		{"some of the others'", before(from(0, 9), "(seq pxy (seq any q.))"), []told{at(0, xy(1, 5, 1, 6, 2, 5), xs()).tells(xy()), at(1, xy(), xs(1)).tells(xy(1, 5, 1, 6)), at(2, xy(), xs(2)).tells(xy())}},
		{"more than the others'", before(from(0, 9), "(seq q. (seq any pxy))"), []told{at(0, xs(1), xy()).tells(xy()), at(1, xs(2), xy(1, 5, 1, 6, 2, 5)).tells(xy(1, 5, 1, 6)), at(2, xs(), xy(2, 2)).tells(xy(2, 2))}},
		{"others", before(from(0, 9), "(seq q. (seq any py))"), []told{at(0, xs(1, 2), ys()).tells(xy()), at(1, xs(), ys(8, 9)).tells(xy(1, 8, 1, 9, 2, 8, 2, 9))}},
		{"others, the second one's first", before(from(0, 9), "(seq py (seq any q.))"), []told{at(0, ys(1, 2), xs()).tells(xy()), at(1, ys(), xs(8, 9)).tells(xy(8, 1, 8, 2, 9, 1, 9, 2))}},
		{"two by one", before(from(0, 9), "(seq q. (seq any (seq py (seq any pxy))))"), []told{at(0, xs(1, 2), ys(), xy()).tells(xy()), at(1, xs(3), ys(5, 6), xy()).tells(xy()), at(2, xs(), ys(7), xy(1, 6, 2, 4, 3, 5)).tells(xy(1, 6)), at(3, xs(), ys(), xy(3, 7)).tells(xy(3, 7))}},
		{"three, one by one", before(from(0, 9), "(seq q. (seq any (seq py (seq any qz))))"), []told{at(0, xs(1), ys(), zs()).tells(xyz()), at(1, xs(), ys(5, 6), zs()).tells(xyz()), at(2, xs(), ys(), zs(7)).tells(xyz(1, 5, 7, 1, 6, 7))}},
		{"three, one by one, bracketed ahead", before(from(0, 9), "(seq (seq (seq (seq q. any) py) any) qz)"), []told{at(0, xs(1), ys(), zs()).tells(xyz()), at(1, xs(), ys(5, 6), zs()).tells(xyz()), at(2, xs(), ys(), zs(7)).tells(xyz(1, 5, 7, 1, 6, 7))}},
		{"three, with stars between", after(from(0, 5), "(seq q. (seq (star any) (seq py (seq (star any) qz))))"), []told{at(0, xs(1), ys(), zs()).tells(), at(1, xs(2), ys(5), zs()).tells(), at(2, xs(), ys(), zs(7)).tells(), at(3, xs(3), ys(6), zs(8)).tells(), at(9, xs(), ys(), zs()).tells(xyz(1, 5, 7, 1, 5, 8, 1, 6, 8), xyz(2, 5, 7, 2, 5, 8, 2, 6, 8), xyz(), xyz(3, 6, 8))}},
		{"the same by several tests", before(open(0), "(seq p. (seq (star any) (seq q. (seq any p.))))"), []told{at(0, xs(1, 2), xs(), xs()).tells(xs()), at(1, xs(3), xs(1, 3), xs()).tells(xs()), at(2, xs(), xs(2), xs(1, 2, 3)).tells(xs(1, 3)), at(3, xs(), xs(), xs(1, 2, 3)).tells(xs(2))}},
		{"eight by one test", before(from(0, 9), "(seq (test (p a b c d)) (seq any (test (q e f g h))))"), []told{at(0, ints("abcd", 1, 2, 3, 4), ints("efgh")).tells(ints(eight)), at(1, ints("abcd"), ints("efgh", 5, 6, 7, 8)).tells(full)}},
		{"eight by two tests", before(from(0, 9), "(seq (test (q h g f d c b)) (seq any (test (p a b c d e f))))"), []told{at(0, ints("bcdfgh", 2, 3, 4, 6, 7, 8), ints("abcdef")).tells(ints(eight)), at(1, ints("bcdfgh", 2, 3, 4, 6, 7, 9), ints("abcdef", 1, 2, 3, 4, 5, 6)).tells(full), at(2, ints("bcdfgh"), ints("abcdef", 0, 2, 3, 4, 5, 6, 1, 2, 3, 4, 5, 7)).tells(ints(eight, 0, 2, 3, 4, 5, 6, 7, 9))}},
	})
}

// TestSteps: P15.3: Alt takes the rows of both parts, whichever way they came, each once.
func TestSteps(t *testing.T) {
	xy := func(l ...int64) api.Table { return ints("xy", l...) }
	runAll(t, []way{
		{"the same row by two ways", before(from(0, 9), "(seq p. (alt any (seq any any)))"), []told{at(0, xs(1)).tells(xs()), at(1, xs(1)).tells(xs(1)), at(2, xs(2)).tells(xs(1)), at(3, xs()).tells(xs(1, 2)), at(4, xs()).tells(xs(2)), at(5, xs()).tells(xs())}},
		{"of two variables, in any order", before(from(0, 9), "(alt (seq (test (p y)) (seq any (test (q x)))) (seq (test (q x)) (seq any (test (p y)))))"), []told{at(0, ints("y", 1), xs(), xs(5), ints("y")).tells(xy()), at(1, ints("y"), xs(2, 5), xs(), ints("y", 1)).tells(xy(2, 1, 5, 1))}},
		{"behind rows", before(from(0, 9), "(seq q. (alt pxy (seq any pxy)))"), []told{at(0, xs(1), xy(1, 7), xy(1, 8)).tells(xy(1, 7)), at(1, xs(2), xy(1, 5, 2, 6), xy(1, 9, 2, 9)).tells(xy(1, 9, 2, 6)), at(2, xs(), xy(2, 1), xy(2, 2)).tells(xy(2, 2))}},
		{"closed ones behind rows", after(from(0, 9), "(seq p. (alt c. (star (seq d. any))))"), []told{at(0, xs(1), no(), yes()).tells(), at(1, xs(2), no(), no()).tells(), at(50, xs(), no(), no()).tells(xs(1), xs(2))}},
	})
}

// TestKinds: P15.3: rows of all kinds stay apart and stand in their order.
func TestKinds(t *testing.T) {
	x := names("x")
	full := strings.Repeat("x", api.MaxText)
	many := put(x, row(num(-5)), row(num(1)), row(rat(-1, 2)), row(rat(1, 3)), row(rat(1, 2)), row(rat(1, 1)), row(str("")), row(str("\x00")), row(str("1")), row(str(full)))
	a := put(x, many.Rows[0], many.Rows[3], many.Rows[6], many.Rows[9])
	b := put(x, many.Rows[1], many.Rows[2], many.Rows[3], many.Rows[4], many.Rows[8])
	c := put(x, many.Rows[4], many.Rows[5], many.Rows[7])
	run(t, before(open(0), "(seq p. (star any))").must(t), at(0, a).tells(a), at(1, b).tells(put(x, slices.Concat(many.Rows[:5], many.Rows[6:7], many.Rows[8:])...)), at(2, c).tells(many))
	run(t, after(from(0, 2), "(seq (star any) p.)").must(t), at(0, a).tells(), at(1, b).tells(), at(2, c).tells(), at(3, xs()).tells(many))
	run(t, before(open(0), "(seq p. (seq any q.))").must(t), at(0, a, many).tells(xs()), at(1, c, many).tells(a), at(2, many, b).tells(put(x, many.Rows[4])), at(3, many, many).tells(many))
}

// TestOrders: P15.3: few rows that fit to some of many, in another order than theirs, of which the next test knows one.
func TestOrders(t *testing.T) {
	const n, some = 2000, 101
	all, pairs := xs(), ints("ax")
	for k := range int64(n) {
		all.Rows = append(all.Rows, row(num(k)))
	}
	for k := range int64(some) {
		pairs.Rows = append(pairs.Rows, row(num(k), num(k*37%some)))
	}
	none := ints("ax")
	for _, k := range []int64{0, 1, some / 2, some - 1} {
		want := ints("ax", k, k*37%some)
		for _, text := range []string{"(seq p. (seq any (seq (test (r a x)) (seq any q.))))", "(seq (seq p. any) (seq (test (r a x)) (seq any q.)))", "(seq (seq (seq p. any) (test (r a x))) (seq any q.))"} {
			run(t, before(from(2, 2), text).must(t), at(0, all, none, xs()).tells(none), at(1, xs(), pairs, xs()).tells(none), at(2, xs(), none, xs(k*37%some)).tells(want))
			run(t, after(from(0, 2), text).must(t), at(0, all, none, xs()).tells(), at(1, xs(), pairs, xs()).tells(), at(2, xs(), none, xs(k*37%some)).tells(), at(9, xs(), none, xs()).tells(want, none, none))
		}
	}
}

// TestNoVars: rule R3: no list and an empty one are the same; so are a table's without rows and its row without values.
func TestNoVars(t *testing.T) {
	for _, none := range [][]string{nil, {}} {
		for _, l := range [][][]api.Value{{nil}, {{}}} {
			full, empty := api.Table{Vars: none, Rows: l}, api.Table{Vars: none, Rows: [][]api.Value{}}
			run(t, before(open(0), "(seq c. any)").must(t), at(0, full).tells(no()), at(1, empty).tells(yes()), at(2, empty).tells(no()))
			run(t, after(from(0, 0), "c.").must(t), at(0, full).tells(), at(1, empty).tells(yes()), at(2, empty).tells(no()))
		}
	}
	for _, none := range [][]api.Table{nil, {}} {
		run(t, before(open(0), "any").must(t), point{0, none}.tells(no()), point{0, none}.tells(yes()))
	}
}
