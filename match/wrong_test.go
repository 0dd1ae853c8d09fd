package match_test

import (
	"math"
	"slices"
	"strings"
	"testing"

	"custos/api"
	"custos/match"
	"custos/static"
)

// refused sees that there is none, by its error.
func refused(t *testing.T, o operator, want api.Errno) {
	t.Helper()
	if m, e := o.made(); m != nil || e != want {
		t.Errorf("%v: %v, %d, not %d", o, m != nil, e, want)
	}
}

func test(l ...api.Formula) api.Regex { return api.Regex{Kind: api.Test, Test: l} }

func pred(name string, vars ...string) api.Formula {
	f := api.Formula{Kind: api.Pred, Name: name}
	for _, v := range vars {
		f.Terms = append(f.Terms, api.Term{Kind: api.Var, Name: v})
	}
	return f
}

func part(kind int, l ...api.Regex) api.Regex { return api.Regex{Kind: kind, Subs: l} }

// nested is a star around another one, again and again.
func nested(n int, r api.Regex) api.Regex {
	for range n {
		r = part(api.Star, r)
	}
	return r
}

// wrongRegexes are regexes that Before and After refuse, by their errors.
func wrongRegexes() map[api.Errno][]api.Regex {
	p, any := test(pred("p", "x")), api.Regex{Kind: api.Any}
	c, deep := test(pred("c")), nested(api.MaxDepth-1, any)
	wide := any
	for range 7 {
		wide = part(api.Alt, wide, wide)
	}
	many := test(pred("p", "a", "b", "c", "d", "e"))
	long := api.Formula{Kind: api.Equal, Terms: []api.Term{{Kind: api.Const, Value: str(strings.Repeat("x", api.MaxText+1))}, {Kind: api.Const, Value: num(1)}}}
	return map[api.Errno][]api.Regex{
		api.ErrKind:  {{}, {Kind: 6}, {Kind: -1}, part(api.Star, api.Regex{}), part(api.Alt, any, api.Regex{Kind: 99}), test(api.Formula{}), test(api.Formula{Kind: 23})},
		api.ErrArg:   {test(), test(pred("c"), pred("d")), part(api.Any, any), part(api.Alt), part(api.Alt, any), part(api.Alt, any, any, any), part(api.Seq, any), part(api.Seq), part(api.Star), part(api.Star, any, any), {Kind: api.Any, Test: p.Test}, {Kind: api.Test, Test: p.Test, Subs: []api.Regex{any}}, {Kind: api.Star, Test: c.Test, Subs: []api.Regex{any}}, test(pred("And")), test(pred("p", "X"))},
		api.ErrVars:  {part(api.Seq, many, test(pred("p", "f", "g", "h", "i"))), test(api.Formula{Kind: api.Exists, Vars: names("x", "x"), Subs: p.Test})},
		api.ErrDeep:  {nested(1, deep), nested(100, any)},
		api.ErrMany:  {part(api.Alt, wide, wide), test(pred("p", "a", "b", "c", "d", "e", "f", "g"))},
		api.ErrLong:  {test(long)},
		api.ErrGuard: {part(api.Star, p), nested(3, p), part(api.Alt, p, test(pred("q", "y"))), part(api.Alt, p, c), part(api.Alt, p, any), part(api.Seq, any, part(api.Star, part(api.Alt, p, p))), test(api.Formula{Kind: api.Not, Subs: p.Test}), test(api.Formula{Kind: api.Soon, I: open(0), Subs: p.Test}), test(api.Formula{Kind: api.After, I: open(0), Regex: []api.Regex{p}})},
	}
}

// TestMakeRefuses: P15.2: what static.Check refuses, and nothing else; the first of its errors, where there are several.
func TestMakeRefuses(t *testing.T) {
	for e, l := range wrongRegexes() {
		for n, r := range l {
			for _, o := range []operator{{false, from(0, 9), r}, {true, from(0, 9), r}, {false, open(3), r}} {
				if static.Check(o.formula()) != e {
					t.Fatalf("%d: regex %d is %d", e, n, static.Check(o.formula()))
				}
				refused(t, o, e)
			}
			// No interval is an error of the outermost node, which stands ahead of the regex; that nobody can watch is asked last.
			refused(t, operator{false, from(2, 1), r}, api.ErrArg)
			refused(t, operator{true, from(2, 1), r}, api.ErrArg)
			if e != api.ErrGuard {
				refused(t, operator{true, open(0), r}, e)
			}
		}
	}
	p := test(pred("p", "x"))
	for _, i := range []api.Interval{from(-1, 5), from(3, 2), from(0, last+1), from(last+1, last+1), from(0, -1), from(math.MinInt64, math.MaxInt64), {Lo: 1, Hi: 2, Open: true}, {Lo: 1, Hi: 1, Open: true}, {Lo: -1, Open: true}, {Lo: last + 1, Open: true}} {
		refused(t, operator{false, i, p}, api.ErrArg)
		refused(t, operator{true, i, p}, api.ErrArg)
		refused(t, operator{true, i, part(api.Star, p)}, api.ErrArg)
	}
	for _, i := range []api.Interval{open(0), open(7), open(last)} {
		refused(t, operator{true, i, p}, api.ErrGuard)
		refused(t, operator{true, i, api.Regex{Kind: api.Any}}, api.ErrGuard)
		operator{false, i, p}.must(t)
	}
	// At the limits.
	for _, after := range []bool{false, true} {
		operator{after, from(0, last), nested(api.MaxDepth-2, api.Regex{Kind: api.Any})}.must(t)
		operator{after, from(last, last), part(api.Seq, test(pred("p", "a", "b", "c", "d", "e")), test(pred("p", "f", "g", "h")))}.must(t)
	}
}

// TestTests: P15.1: the formulas of all tests, in the order of the text, whatever the regex is.
func TestTests(t *testing.T) {
	a, b, c, d := test(pred("a")), test(pred("b", "x")), test(pred("c")), test(pred("d"))
	any := api.Regex{Kind: api.Any}
	within := test(api.Formula{Kind: api.Before, Regex: []api.Regex{part(api.Seq, a, b)}, Name: "outer"})
	both := api.Regex{Kind: api.Test, Test: slices.Concat(a.Test, b.Test), Subs: []api.Regex{c, d}}
	for _, x := range []struct {
		r    api.Regex
		want string
	}{
		{any, ""}, {a, "a"}, {part(api.Star, a), "a"}, {part(api.Alt, a, b), "a b"}, {part(api.Seq, b, a), "b a"},
		{part(api.Seq, part(api.Alt, a, part(api.Star, b)), part(api.Seq, any, part(api.Alt, c, d))), "a b c d"},
		{part(api.Seq, a, part(api.Seq, a, a)), "a a a"}, {within, "outer"}, {part(api.Seq, within, a), "outer a"},
		{api.Regex{}, ""}, {test(), ""}, {test(pred("a"), pred("b"), pred("c")), "a b c"}, {test(api.Formula{}), ""},
		{part(api.Seq, test(), test(pred("a"), pred("b")), c), "a b c"}, {both, "a b c d"},
		{part(0, a, b), "a b"}, {part(99, a, part(-1, b, c, d)), "a b c d"}, {part(api.Any, a, b), "a b"}, {part(api.Star, a, b, c), "a b c"}, {part(api.Test, a, b), "a b"}, {part(api.Alt, a), "a"}, {part(api.Seq), ""},
		{part(api.Star, part(0, both, part(6, both), any, test())), "a b c d a b c d"},
	} {
		got := match.Tests(x.r)
		var l []string
		for _, f := range got {
			l = append(l, f.Name)
		}
		if strings.TrimSpace(strings.Join(l, " ")) != x.want {
			t.Errorf("Tests of %v: %v, not %s", x.r, l, x.want)
		}
	}
	if l := match.Tests(test(api.Formula{})); len(l) != 1 {
		t.Errorf("a formula that may not be is none: %v", l)
	}
}

// TestTestsDeep: P15.1, R1: parts within one another, as many as may be.
func TestTestsDeep(t *testing.T) {
	const n = 1 << 16
	r := api.Regex{Kind: api.Any}
	for range n {
		r = part(api.Seq, r, test(pred("p")))
	}
	if l := match.Tests(r); len(l) != n {
		t.Errorf("%d tests, not %d", len(l), n)
	}
	refused(t, operator{false, from(0, 0), r}, api.ErrDeep)
}

// TestTestsMemory: P15.1, R4: what is told is the caller's own.
func TestTestsMemory(t *testing.T) {
	made := func() api.Regex {
		f := api.Formula{Kind: api.Exists, Vars: names("y"), Subs: []api.Formula{pred("p", "x", "y")}, Terms: []api.Term{{Name: "t", Subs: []api.Term{{Name: "u"}}}}, Regex: []api.Regex{test(pred("q"))}}
		return part(api.Seq, test(f, f), test(f))
	}
	r := made()
	r.Subs = append(r.Subs, test(pred("behind")))[:2]
	write := func(f api.Formula) {
		f.Vars[0], f.Subs[0].Name, f.Subs[0].Terms[0].Name, f.Terms[0].Subs[0].Name, f.Regex[0].Test[0].Name = "v", "w", "w", "w", "w"
	}
	l, other := match.Tests(r), match.Tests(r)
	for i := range l {
		write(l[i])
		l[i].Name = "w"
	}
	if !slices.EqualFunc(match.Tests(r), match.Tests(made()), sameFormula) || !slices.EqualFunc(other, match.Tests(made()), sameFormula) {
		t.Error("what was told is written over in the regex, or in what is told again")
	}
	l = match.Tests(r)
	write(l[0])
	if !sameFormula(l[1], match.Tests(made())[1]) || !sameFormula(l[2], match.Tests(made())[2]) {
		t.Error("two formulas share room")
	}
	l = match.Tests(r)
	write(r.Subs[1].Test[0])
	if !slices.EqualFunc(l, match.Tests(made()), sameFormula) {
		t.Error("what was told is that which was handed in")
	}
	if r.Subs[:3][2].Test[0].Name != "behind" {
		t.Error("the room behind a list was written over")
	}
}

// wrong is a point that may not come behind one at 5, and its error.
type wrong struct {
	point
	e api.Errno
}

// mayNot are tables of x that may not be, each with its error.
func mayNot() []wrong {
	long, kind := str(strings.Repeat("x", api.MaxText+1)), api.Value{Kind: 4}
	x := names("x")
	return []wrong{
		{at(5, ints("yx")), api.ErrVars}, {at(5, ints("xx")), api.ErrVars}, {at(5, ints("abcdefghi")), api.ErrVars}, {at(5, put(names("y", "x"), row(kind))), api.ErrVars},
		{at(5, put(x, row())), api.ErrArg}, {at(5, put(x, nil)), api.ErrArg}, {at(5, put(x, row(num(1), num(2)))), api.ErrArg}, {at(5, xs(2, 1)), api.ErrArg}, {at(5, xs(1, 1)), api.ErrArg}, {at(5, xs(1, 3, 2)), api.ErrArg}, {at(5, put(nil, row(), row())), api.ErrArg},
		{at(5, put(x, row(api.Value{}))), api.ErrKind}, {at(5, put(x, row(kind))), api.ErrKind}, {at(5, put(x, row(rat(2, 4)))), api.ErrKind}, {at(5, put(x, row(rat(1, 0)))), api.ErrKind}, {at(5, put(x, row(api.Value{Kind: api.Int, D: 1}))), api.ErrKind},
		{at(5, put(x, row(long))), api.ErrLong}, {at(5, put(x, row(num(1)), row(long))), api.ErrLong}, {at(5, put(x, row(long), row())), api.ErrLong},
	}
}

// otherVars are tables that may be, and are not of x.
func otherVars() []api.Table {
	return []api.Table{no(), yes(), ints("y"), ints("y", 1), ints("xy"), ints("xy", 1, 1), ints("wx", 1, 1), ints("abcdefgh"), put(names("X")), put(names(""))}
}

func wrongTimes() []int64 { return []int64{math.MinInt64, -last, -1, last + 1, math.MaxInt64} }

// wrongPoints are each wrong thing by itself, then several at once, of which the first one is told. Both tests are of x.
func wrongPoints() []wrong {
	var l []wrong
	bad, good := mayNot(), xs(1)
	for _, time := range append(wrongTimes(), 0, 4) {
		l = append(l, wrong{at(time, good, good), api.ErrTime}, wrong{at(time), api.ErrTime}, wrong{at(time, good), api.ErrTime}, wrong{at(time, good, good, good), api.ErrTime}, wrong{at(time, ints("y"), good), api.ErrTime}, wrong{at(time, good, ints("y")), api.ErrTime})
		for _, w := range bad {
			l = append(l, wrong{at(time, w.tests[0], good), api.ErrTime}, wrong{at(time, good, w.tests[0]), api.ErrTime})
		}
	}
	// A time that would settle all that waits settles nothing with a wrong table.
	for _, time := range []int64{5, 100, last} {
		l = append(l, wrong{at(time), api.ErrArg}, wrong{at(time, good), api.ErrArg}, wrong{at(time, good, good, good), api.ErrArg}, wrong{at(time, ints("y")), api.ErrArg})
		for _, w := range bad {
			b := w.tests[0]
			l = append(l, wrong{at(time, b), api.ErrArg}, wrong{at(time, b, b, b), api.ErrArg}, wrong{at(time, b, good), w.e}, wrong{at(time, good, b), w.e})
			for _, v := range bad {
				l = append(l, wrong{at(time, b, v.tests[0]), w.e})
			}
			for _, other := range otherVars() {
				l = append(l, wrong{at(time, other, b), w.e}, wrong{at(time, b, other), w.e})
			}
		}
		for _, other := range otherVars() {
			l = append(l, wrong{at(time, other, good), api.ErrVars}, wrong{at(time, good, other), api.ErrVars}, wrong{at(time, other, other), api.ErrVars})
		}
	}
	return l
}

// likewise tells a point to both, and sees that the first one tells, and lets wait, what the other one does.
func likewise(t *testing.T, m, as *match.Match, x point) {
	t.Helper()
	want, e := as.Step(x.time, x.tests)
	if e != api.OK {
		t.Fatal(x, e)
	}
	step(t, m, x, want, api.OK, as.Waits())
}

// TestStepRefuses: P15.3, P15.4: at each wrong point the first of its errors; and the point has not come, however many of them were told.
func TestStepRefuses(t *testing.T) {
	l := wrongPoints()
	for _, text := range []string{"(seq p. (seq any q.))", "(seq p. (seq (star any) q.))", "(alt p. q.)"} {
		for _, o := range []operator{before(from(0, 0), text), before(from(1, 3), text), before(open(0), text), after(from(0, 0), text), after(from(0, 2), text), after(from(0, last), text)} {
			told, untold := o.must(t), o.must(t)
			likewise(t, told, untold, at(4, xs(1, 2), xs(2)))
			likewise(t, told, untold, at(5, xs(2, 3), xs(1, 3)))
			for _, w := range l {
				step(t, told, w.point, nil, w.e, untold.Waits())
				// A clone goes on as if nothing had been told, so that each wrong point is seen by itself.
				a, b := told.Clone(), untold.Clone()
				for time := int64(5); time < 8; time++ {
					likewise(t, a, b, at(time, xs(time), xs(2, 3, time-1)))
				}
				likewise(t, a, b, at(last, xs(), xs()))
			}
			for time := int64(5); time < 10; time++ {
				likewise(t, told, untold, at(time, xs(time), xs(2, 3, time-1)))
			}
			likewise(t, told, untold, at(last, xs(), xs()))
		}
	}
}

// TestStepRefusesFirst: P15.3: the same at the beginning, where no point is ahead: any time that may be is taken then.
func TestStepRefusesFirst(t *testing.T) {
	for _, o := range []operator{before(from(0, 0), "p."), after(from(0, 0), "p.")} {
		for _, start := range []int64{0, 1, last - 1} {
			m := o.must(t)
			for _, time := range wrongTimes() {
				step(t, m, at(time, xs(7)), nil, api.ErrTime, 0)
			}
			step(t, m, at(last), nil, api.ErrArg, 0)
			step(t, m, at(last, xs(7), xs(7)), nil, api.ErrArg, 0)
			step(t, m, at(last, xs(2, 1)), nil, api.ErrArg, 0)
			step(t, m, at(last, ints("y", 1)), nil, api.ErrVars, 0)
			want := []api.Verdict{{At: 0, Time: start, Table: xs(7)}}
			if !o.after {
				step(t, m, at(start, xs(7)), want, api.OK, 0)
				continue
			}
			step(t, m, at(start, xs(7)), nil, api.OK, 1)
			if start > 0 {
				step(t, m, at(start-1, xs(7)), nil, api.ErrTime, 1)
			}
			step(t, m, at(start+1, xs(7)), want, api.OK, 1)
		}
	}
}

// TestStepVars: P15.3: each test is asked for the free variables of its own formula, in the order of the text.
func TestStepVars(t *testing.T) {
	const text = `(seq (test (exists (y) (q x y))) (seq any (seq (test (and (p z) (= y (+ z 1)))) (test (agg n cnt x (y) (q x y))))))`
	x, yz, ny := xs(1), ints("yz", 3, 2), ints("ny", 5, 3)
	wants := ints("nxyz", 5, 1, 3, 2)
	for _, o := range []operator{before(from(0, 1), text), after(from(0, 1), text)} {
		m := o.must(t)
		for _, l := range [][]api.Table{{ints("xy"), yz, ny}, {ints("y"), yz, ny}, {x, ints("z", 1), ny}, {x, ny, yz}, {yz, x, ny}, {x, yz, ints("nxy")}, {x, yz, ints("y")}, {no(), no(), no()}} {
			step(t, m, at(0, l...), nil, api.ErrVars, 0)
		}
		step(t, m, at(0, x, yz), nil, api.ErrArg, 0)
		step(t, m, at(0), nil, api.ErrArg, 0)
		if o.after {
			run(t, m, at(0, x, yz, ny).tells(), at(1, x, yz, ny).tells(), at(9, x, yz, ny).tells(wants, ints("nxyz")))
		} else {
			run(t, m, at(0, x, yz, ny).tells(ints("nxyz")), at(1, x, yz, ny).tells(wants), at(9, x, yz, ny).tells(ints("nxyz")))
		}
	}
	// Of a regex without tests no table is told.
	for _, o := range []operator{before(from(0, 1), "(star any)"), after(from(0, 1), "(star any)")} {
		m := o.must(t)
		step(t, m, at(0, no()), nil, api.ErrArg, 0)
		step(t, m, at(0, xs(2, 1)), nil, api.ErrArg, 0)
		if _, e := m.Step(0, nil); e != api.OK {
			t.Error(e)
		}
	}
}
