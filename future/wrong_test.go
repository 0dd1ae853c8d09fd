package future_test

import (
	"math"
	"slices"
	"strings"
	"testing"

	"custos/api"
	"custos/future"
)

// wrong is a point that may not come behind one at 5, and its error.
type wrong struct {
	point
	e api.Errno
}

// mayNot are tables of x that may not be, each with its error.
func mayNot() []wrong {
	long, kind := str(strings.Repeat("x", api.MaxText+1)), api.Value{Kind: 4}
	x := names("x")
	return []wrong{
		{at(5, ints("yx")), api.ErrVars}, {at(5, ints("xx")), api.ErrVars}, {at(5, ints("abcdefghi")), api.ErrVars}, {at(5, put(names("y", "x"), row(kind))), api.ErrVars},
		{at(5, put(x, row())), api.ErrArg}, {at(5, put(x, nil)), api.ErrArg}, {at(5, put(x, row(num(1), num(2)))), api.ErrArg}, {at(5, xs(2, 1)), api.ErrArg}, {at(5, xs(1, 1)), api.ErrArg}, {at(5, xs(1, 3, 2)), api.ErrArg}, {at(5, put(nil, row(), row())), api.ErrArg},
		{at(5, put(x, row(api.Value{}))), api.ErrKind}, {at(5, put(x, row(kind))), api.ErrKind}, {at(5, put(x, row(rat(2, 4)))), api.ErrKind}, {at(5, put(x, row(rat(1, 0)))), api.ErrKind}, {at(5, put(x, row(api.Value{Kind: api.Int, D: 1}))), api.ErrKind},
		{at(5, put(x, row(long))), api.ErrLong}, {at(5, put(x, row(num(1)), row(long))), api.ErrLong}, {at(5, put(x, row(long), row())), api.ErrLong},
	}
}

// otherVars are tables that may be, and are not of x.
func otherVars() []api.Table {
	return []api.Table{no(), yes(), ints("y"), ints("y", 1), ints("xy"), ints("xy", 1, 1), ints("wx", 1, 1), ints("abcdefgh"), put(names("X")), put(names(""))}
}

func wrongTimes() []int64 { return []int64{math.MinInt64, -last, -1, last + 1, math.MaxInt64} }

// wrongOfOne are those of Next and Soon: each by itself, then several at once, of which the first one is told.
func wrongOfOne() []wrong {
	var l []wrong
	bad := mayNot()
	for _, time := range append(wrongTimes(), 0, 4) {
		l = append(l, wrong{at(time, xs(1)), api.ErrTime}, wrong{at(time), api.ErrTime}, wrong{at(time, xs(1), xs(1)), api.ErrTime}, wrong{at(time, ints("y", 1)), api.ErrTime})
		for _, w := range bad {
			l = append(l, wrong{at(time, w.tables...), api.ErrTime})
		}
	}
	// A time that would settle all that waits settles nothing with a wrong table.
	for _, time := range []int64{5, 6, 100, last} {
		l = append(l, wrong{at(time), api.ErrArg}, wrong{at(time, xs(1), xs(1)), api.ErrArg}, wrong{at(time, xs(1), xs(1), xs(1)), api.ErrArg}, wrong{at(time, ints("y"), xs(1)), api.ErrArg})
		for _, w := range bad {
			l = append(l, wrong{at(time, w.tables...), w.e}, wrong{at(time, w.tables[0], xs(1)), api.ErrArg}, wrong{at(time, xs(1), w.tables[0]), api.ErrArg})
		}
		for _, other := range otherVars() {
			l = append(l, wrong{at(time, other), api.ErrVars})
		}
	}
	return l
}

// wrongOfTwo are those of Until, whose left and right are both of x.
func wrongOfTwo() []wrong {
	var l []wrong
	bad, good := mayNot(), xs(1)
	for _, time := range append(wrongTimes(), 0, 4) {
		l = append(l, wrong{at(time, good, good), api.ErrTime}, wrong{at(time), api.ErrTime}, wrong{at(time, good), api.ErrTime}, wrong{at(time, good, good, good), api.ErrTime}, wrong{at(time, ints("y"), good), api.ErrTime}, wrong{at(time, good, ints("y")), api.ErrTime})
		for _, w := range bad {
			l = append(l, wrong{at(time, w.tables[0], good), api.ErrTime}, wrong{at(time, good, w.tables[0]), api.ErrTime})
		}
	}
	for _, time := range []int64{5, 100} {
		l = append(l, wrong{at(time), api.ErrArg}, wrong{at(time, good), api.ErrArg}, wrong{at(time, good, good, good), api.ErrArg}, wrong{at(time, ints("y")), api.ErrArg})
		for _, w := range bad {
			b := w.tables[0]
			l = append(l, wrong{at(time, b), api.ErrArg}, wrong{at(time, b, b, b), api.ErrArg}, wrong{at(time, b, good), w.e}, wrong{at(time, good, b), w.e})
			for _, v := range bad {
				l = append(l, wrong{at(time, b, v.tables[0]), w.e})
			}
			for _, other := range otherVars() {
				l = append(l, wrong{at(time, other, b), w.e}, wrong{at(time, b, other), w.e})
			}
		}
		for _, other := range otherVars() {
			l = append(l, wrong{at(time, other, good), api.ErrVars}, wrong{at(time, good, other), api.ErrVars}, wrong{at(time, other, other), api.ErrVars})
		}
	}
	return l
}

// likewise tells a point to both, and sees that the first one tells, and lets wait, what the other one does.
func likewise(t *testing.T, f, as *future.Future, x point) {
	t.Helper()
	want, e := as.Step(x.time, x.tables)
	if e != api.OK {
		t.Fatal(x, e)
	}
	step(t, f, x, want, api.OK, as.Waits())
}

// TestStepRefuses: P14.2, P14.3: at each wrong point the first of its errors; and the point has not come, however many of them were told.
func TestStepRefuses(t *testing.T) {
	for _, i := range []api.Interval{from(0, 0), from(0, 2), from(1, 3), from(0, last)} {
		for _, o := range operators(i) {
			l, right := wrongOfOne(), func(x api.Table) []api.Table { return []api.Table{x} }
			if o.kind == until {
				l, right = wrongOfTwo(), func(x api.Table) []api.Table { return []api.Table{xs(2, 5), x} }
			}
			told, untold := o.must(t), o.must(t)
			likewise(t, told, untold, point{4, right(xs(1, 2))})
			likewise(t, told, untold, point{5, right(xs(2, 3))})
			for _, w := range l {
				step(t, told, w.point, nil, w.e, untold.Waits())
				// A clone goes on as if nothing had been told, so that each wrong point is seen by itself.
				a, b := told.Clone(), untold.Clone()
				for time := int64(5); time < 9; time++ {
					likewise(t, a, b, point{time, right(xs(time))})
				}
				likewise(t, a, b, point{last, right(xs())})
			}
			for time := int64(5); time < 10; time++ {
				likewise(t, told, untold, point{time, right(xs(time))})
			}
			likewise(t, told, untold, point{last, right(xs())})
		}
	}
}

// TestStepRefusesFirst: P14.2: the same at the beginning, where no point is ahead: any time that may be is taken then.
func TestStepRefusesFirst(t *testing.T) {
	for _, o := range operators(from(0, 0)) {
		right := []api.Table{xs(7)}
		if o.kind == until {
			right = []api.Table{xs(7), xs(7)}
		}
		for _, start := range []int64{0, 1, last - 1} {
			f := o.must(t)
			for _, time := range wrongTimes() {
				step(t, f, point{time, right}, nil, api.ErrTime, 0)
			}
			step(t, f, point{last, right[1:]}, nil, api.ErrArg, 0)
			step(t, f, point{last, append(slices.Clone(right), xs(7))}, nil, api.ErrArg, 0)
			step(t, f, point{last, slices.Repeat([]api.Table{xs(2, 1)}, len(right))}, nil, api.ErrArg, 0)
			step(t, f, point{last, slices.Repeat([]api.Table{ints("y", 1)}, len(right))}, nil, api.ErrVars, 0)
			step(t, f, point{start, right}, nil, api.OK, 1)
			if start > 0 {
				step(t, f, point{start - 1, right}, nil, api.ErrTime, 1)
			}
			want := []api.Verdict{{At: 0, Time: start, Table: xs(7)}}
			if o.kind == next {
				step(t, f, point{start, right}, want, api.OK, 1)
				continue
			}
			step(t, f, point{start, right}, nil, api.OK, 2)
			want = append(want, api.Verdict{At: 1, Time: start, Table: xs(7)})
			step(t, f, point{start + 1, right}, want, api.OK, 1)
		}
	}
}

// TestStepVars: P14.2: left is asked for its own variables, not for right's, and the other way round.
func TestStepVars(t *testing.T) {
	for _, not := range []bool{false, true} {
		o := operator{until, from(0, 0), not, letters("y"), letters("yx")}
		f := o.must(t)
		y, xy := ints("y", 1), ints("xy", 1, 1)
		step(t, f, at(0, xy, y), nil, api.ErrVars, 0)
		step(t, f, at(0, y, y), nil, api.ErrVars, 0)
		step(t, f, at(0, xy, xy), nil, api.ErrVars, 0)
		step(t, f, at(0, xs(1), xy), nil, api.ErrVars, 0)
		step(t, f, at(0, no(), xy), nil, api.ErrVars, 0)
		step(t, f, at(0, y, put(names("y", "x"), row(num(1), num(1)))), nil, api.ErrVars, 0)
		step(t, f, at(0, y, xy), nil, api.OK, 1)
		step(t, f, at(1, y, ints("xy")), []api.Verdict{{Table: xy}}, api.OK, 1)
	}
}
