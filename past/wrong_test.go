package past_test

import (
	"math"
	"slices"
	"strings"
	"testing"

	"custos/api"
)

// wrong is a point that may not come behind one at 5, and its error.
type wrong struct {
	point
	e api.Errno
}

// mayNot are tables of x that may not be, each with its error.
func mayNot() []wrong {
	long, kind := str(strings.Repeat("x", api.MaxText+1)), api.Value{Kind: 4}
	x := names("x")
	return []wrong{
		{at(5, ints("yx")), api.ErrVars}, {at(5, ints("xx")), api.ErrVars}, {at(5, ints("abcdefghi")), api.ErrVars}, {at(5, put(names("y", "x"), row(kind))), api.ErrVars},
		{at(5, put(x, row())), api.ErrArg}, {at(5, put(x, nil)), api.ErrArg}, {at(5, put(x, row(num(1), num(2)))), api.ErrArg}, {at(5, xs(2, 1)), api.ErrArg}, {at(5, xs(1, 1)), api.ErrArg}, {at(5, xs(1, 3, 2)), api.ErrArg}, {at(5, put(nil, row(), row())), api.ErrArg},
		{at(5, put(x, row(api.Value{}))), api.ErrKind}, {at(5, put(x, row(kind))), api.ErrKind}, {at(5, put(x, row(rat(2, 4)))), api.ErrKind}, {at(5, put(x, row(rat(1, 0)))), api.ErrKind}, {at(5, put(x, row(api.Value{Kind: api.Int, D: 1}))), api.ErrKind},
		{at(5, put(x, row(long))), api.ErrLong}, {at(5, put(x, row(num(1)), row(long))), api.ErrLong}, {at(5, put(x, row(long), row())), api.ErrLong},
	}
}

// otherVars are tables that may be, and are not of x.
func otherVars() []api.Table {
	return []api.Table{no(), yes(), ints("y"), ints("y", 1), ints("xy"), ints("xy", 1, 1), ints("wx", 1, 1), ints("abcdefgh"), put(names("X")), put(names(""))}
}

func wrongTimes() []int64 { return []int64{math.MinInt64, -last, -1, last + 1, math.MaxInt64} }

// wrongOfOne are those of Prev and Once: each by itself, then several at once, of which the first one is told.
func wrongOfOne() []wrong {
	var l []wrong
	bad := mayNot()
	for _, time := range append(wrongTimes(), 0, 4) {
		l = append(l, wrong{at(time, xs(1)), api.ErrTime}, wrong{at(time), api.ErrTime}, wrong{at(time, xs(1), xs(1)), api.ErrTime}, wrong{at(time, ints("y", 1)), api.ErrTime})
		for _, w := range bad {
			l = append(l, wrong{at(time, w.tables...), api.ErrTime})
		}
	}
	l = append(l, wrong{at(5), api.ErrArg}, wrong{at(5, xs(1), xs(1)), api.ErrArg}, wrong{at(5, xs(1), xs(1), xs(1)), api.ErrArg}, wrong{at(5, ints("y"), xs(1)), api.ErrArg})
	for _, w := range bad {
		l = append(l, w, wrong{at(5, w.tables[0], xs(1)), api.ErrArg}, wrong{at(5, xs(1), w.tables[0]), api.ErrArg})
	}
	for _, other := range otherVars() {
		l = append(l, wrong{at(5, other), api.ErrVars}, wrong{at(6, other), api.ErrVars})
	}
	return l
}

// wrongOfTwo are those of Since, whose left and right are both of x.
func wrongOfTwo() []wrong {
	var l []wrong
	bad, good := mayNot(), xs(1)
	for _, time := range append(wrongTimes(), 0, 4) {
		l = append(l, wrong{at(time, good, good), api.ErrTime}, wrong{at(time), api.ErrTime}, wrong{at(time, good), api.ErrTime}, wrong{at(time, good, good, good), api.ErrTime}, wrong{at(time, ints("y"), good), api.ErrTime}, wrong{at(time, good, ints("y")), api.ErrTime})
		for _, w := range bad {
			l = append(l, wrong{at(time, w.tables[0], good), api.ErrTime}, wrong{at(time, good, w.tables[0]), api.ErrTime})
		}
	}
	l = append(l, wrong{at(5), api.ErrArg}, wrong{at(5, good), api.ErrArg}, wrong{at(5, good, good, good), api.ErrArg}, wrong{at(5, ints("y")), api.ErrArg})
	for _, w := range bad {
		b := w.tables[0]
		l = append(l, wrong{at(5, b), api.ErrArg}, wrong{at(5, b, b, b), api.ErrArg}, wrong{at(5, b, good), w.e}, wrong{at(5, good, b), w.e})
		for _, v := range bad {
			l = append(l, wrong{at(5, b, v.tables[0]), w.e})
		}
		for _, other := range otherVars() {
			l = append(l, wrong{at(5, other, b), w.e}, wrong{at(5, b, other), w.e})
		}
	}
	for _, other := range otherVars() {
		l = append(l, wrong{at(5, other, good), api.ErrVars}, wrong{at(5, good, other), api.ErrVars}, wrong{at(6, other, other), api.ErrVars})
	}
	return l
}

// TestStepRefuses: P13.2: at each wrong point the first of its errors; and the point has not come, however many of them were told.
func TestStepRefuses(t *testing.T) {
	for _, i := range []api.Interval{from(0, 2), from(1, 3), open(0), open(1)} {
		for _, o := range operators(i) {
			l, right := wrongOfOne(), func(x api.Table) []api.Table { return []api.Table{x} }
			if o.kind == since {
				l, right = wrongOfTwo(), func(x api.Table) []api.Table { return []api.Table{xs(2), x} }
			}
			told, untold := o.must(t), o.must(t)
			same := func(time int64, x api.Table) {
				t.Helper()
				want, e := untold.Step(time, right(x))
				step(t, told, point{time, right(x)}, want, e)
			}
			same(4, xs(1, 2))
			same(5, xs(2, 3))
			for _, w := range l {
				step(t, told, w.point, nought(), w.e)
				// A clone goes on as if nothing had been told, so that each wrong point is seen by itself.
				a, b := told.Clone(), untold.Clone()
				for time := int64(5); time < 9; time++ {
					want, e := b.Step(time, right(xs(time)))
					step(t, a, point{time, right(xs(time))}, want, e)
				}
			}
			for time := int64(5); time < 10; time++ {
				same(time, xs(time))
			}
		}
	}
}

// TestStepRefusesFirst: P13.2: the same at the beginning, where no point is ahead: any time that may be is taken then.
func TestStepRefusesFirst(t *testing.T) {
	for _, o := range operators(open(0)) {
		right := []api.Table{xs(7)}
		if o.kind == since {
			right = []api.Table{xs(7), xs(7)}
		}
		for _, start := range []int64{0, 1, last} {
			p := o.must(t)
			for _, time := range wrongTimes() {
				step(t, p, point{time, right}, nought(), api.ErrTime)
			}
			step(t, p, point{last, right[1:]}, nought(), api.ErrArg)
			step(t, p, point{last, append(slices.Clone(right), xs(7))}, nought(), api.ErrArg)
			step(t, p, point{last, slices.Repeat([]api.Table{xs(2, 1)}, len(right))}, nought(), api.ErrArg)
			step(t, p, point{last, slices.Repeat([]api.Table{ints("y", 1)}, len(right))}, nought(), api.ErrVars)
			want := xs(7)
			if o.kind == prev {
				want = xs()
			}
			step(t, p, point{start, right}, want, api.OK)
			if start > 0 {
				step(t, p, point{start - 1, right}, nought(), api.ErrTime)
			}
			step(t, p, point{start, right}, xs(7), api.OK)
		}
	}
}

// TestStepVars: P13.2: left is asked for its own variables, not for right's, and the other way round.
func TestStepVars(t *testing.T) {
	for _, not := range []bool{false, true} {
		o := operator{since, open(0), not, letters("y"), letters("yx")}
		p := o.must(t)
		y, xy := ints("y", 1), ints("xy", 1, 1)
		step(t, p, at(0, xy, y), nought(), api.ErrVars)
		step(t, p, at(0, y, y), nought(), api.ErrVars)
		step(t, p, at(0, xy, xy), nought(), api.ErrVars)
		step(t, p, at(0, xs(1), xy), nought(), api.ErrVars)
		step(t, p, at(0, no(), xy), nought(), api.ErrVars)
		step(t, p, at(0, y, put(names("y", "x"), row(num(1), num(1)))), nought(), api.ErrVars)
		step(t, p, at(0, y, xy), xy, api.OK)
	}
}
