package engine_test

import (
	"math"
	"slices"
	"strconv"
	"strings"
	"testing"

	"custos/api"
	"custos/engine"
)

func refuses(t *testing.T, sig []api.Decl, f api.Formula, want api.Errno) {
	t.Helper()
	if e, err := engine.New(sig, f); e != nil || err != want {
		t.Errorf("New of %v, %s: %v, %d, want %d", sig, textOf(f), e, err, want)
	}
}

// TestNewWrong: P17.1, typing.Infer's errors, and static.Check's behind them.
func TestNewWrong(t *testing.T) {
	sig := signature(t)
	twice := append(slices.Clone(sig), sig[0])
	many := slices.Repeat(sig[:1], 33)
	kind := []api.Decl{{Name: "p", Kinds: []int{4}}}
	bad := api.Formula{Kind: 23}
	deep := formula(t, "(p x)")
	for range 24 {
		deep = api.Formula{Kind: api.Once, I: api.Interval{Open: true}, Subs: []api.Formula{deep}}
	}
	for _, x := range []struct {
		sig  []api.Decl
		f    api.Formula
		want api.Errno
	}{
		{twice, formula(t, "(p x)"), api.ErrArg}, {many, formula(t, "(p x)"), api.ErrMany}, {kind, formula(t, "(p x)"), api.ErrKind}, {[]api.Decl{{Name: "not"}}, formula(t, "true"), api.ErrArg},
		{sig, bad, api.ErrKind}, {sig, api.Formula{}, api.ErrKind}, {sig, api.Formula{Kind: api.And}, api.ErrArg}, {sig, deep, api.ErrDeep}, {sig, api.Formula{Kind: api.Exists, Vars: []string{"x", "x"}, Subs: []api.Formula{formula(t, "(p x)")}}, api.ErrVars},
		{sig, formula(t, "(p \"a\")"), api.ErrType}, {sig, formula(t, "(g x)"), api.ErrType}, {sig, formula(t, "(p x y)"), api.ErrType}, {nil, formula(t, "(p x)"), api.ErrType}, {sig, formula(t, "(and (p x) (= y (+ x 1/2)))"), api.ErrType}, {sig, formula(t, "(agg m sum y () (q x y))"), api.ErrType}, {sig, formula(t, "(let l (x) (q x y) (p x))"), api.ErrGuard},
		{sig, formula(t, "(not (p x))"), api.ErrGuard}, {sig, formula(t, "(and (p x) (< y 3))"), api.ErrGuard}, {sig, formula(t, "(or (p x) (q x y))"), api.ErrGuard}, {sig, formula(t, "(soon [0,*] (p x))"), api.ErrGuard}, {sig, formula(t, "(since [0,1] (q x y) (p x))"), api.ErrGuard}, {sig, formula(t, "(letpast l (x) (or (p x) (l x)) (l x))"), api.ErrGuard}, {sig, formula(t, "(before [0,3] (star (test (p x))))"), api.ErrGuard}, {sig, formula(t, "(p (+ x 1))"), api.ErrGuard},
		// Several at once: the signature's, the form's, the kinds', what can't be watched.
		{twice, bad, api.ErrArg}, {many, formula(t, "(not (p \"a\"))"), api.ErrMany}, {kind, api.Formula{Kind: api.And}, api.ErrKind}, {sig, api.Formula{Kind: api.Not, Subs: []api.Formula{bad}}, api.ErrKind}, {sig, formula(t, "(not (p x x))"), api.ErrType}, {sig, formula(t, "(or (p x) (q x x))"), api.ErrType}, {sig, formula(t, "(soon [0,*] (g x))"), api.ErrType}, {twice, formula(t, "(not (p x))"), api.ErrArg}, {sig, api.Formula{Kind: api.Soon, I: api.Interval{Lo: 3, Hi: 1}, Subs: []api.Formula{formula(t, "(g)")}}, api.ErrArg},
	} {
		refuses(t, x.sig, x.f, x.want)
	}
	// Without predicates some formulas may be watched still.
	e, err := engine.New(nil, formula(t, "(= x 3)"))
	if e == nil || err != api.OK {
		t.Error(e, err)
	}
}

func event(name string, args ...api.Value) api.Event { return api.Event{Name: name, Args: args} }

func text(s string) api.Value { return api.Value{Kind: api.Str, S: s} }

// isRefused asks that a point is, with an error, and then each one, and what the calls tell of it.
func isRefused(t *testing.T, e *engine.Engine, p api.Point, want api.Errno) {
	t.Helper()
	points, told, reach := e.Points(), e.Told(), e.Reach()
	l, err := e.Step(p)
	if len(l) != 0 || err != want {
		t.Errorf("%v: %v, %d, want %d", p, l, err, want)
	}
	for _, q := range []api.Point{p, {Time: api.MaxTime}, {Time: -1}, {}} {
		if l, err := e.Step(q); len(l) != 0 || err != api.ErrState {
			t.Errorf("%v behind the error %d: %v, %d", q, want, l, err)
		}
		c := e.Clone()
		if l, err := c.Step(q); len(l) != 0 || err != api.ErrState || c.Err() != want {
			t.Errorf("%v behind the error %d, of a clone: %v, %d; %d", q, want, l, err, c.Err())
		}
	}
	if e.Points() != points || e.Told() != told || e.Reach() != reach || e.Err() != want {
		t.Errorf("%v: %d points, %d told, reach %d, error %d, want %d, %d, %d, %d", p, e.Points(), e.Told(), e.Reach(), e.Err(), points, told, reach, want)
	}
}

// TestStepWrong: P17.2, each error by itself, and several at once in their order.
func TestStepWrong(t *testing.T) {
	sig, f := signature(t), formula(t, "(soon [0,2] (p x))")
	wrong := event("p", text("a"))
	for n, x := range []struct {
		p    api.Point
		want api.Errno
	}{
		{api.Point{Time: -1}, api.ErrRange}, {api.Point{Time: math.MinInt64}, api.ErrRange}, {api.Point{Time: api.MaxTime + 1}, api.ErrRange}, {api.Point{Time: math.MaxInt64}, api.ErrRange},
		{api.Point{Time: 9, Events: slices.Repeat([]api.Event{event("r")}, 65)}, api.ErrMany},
		{api.Point{Time: 9, Events: []api.Event{event("p", api.Value{})}}, api.ErrKind}, {api.Point{Time: 9, Events: []api.Event{event("p", api.Value{Kind: api.Int, D: 1})}}, api.ErrKind}, {api.Point{Time: 9, Events: []api.Event{event("f", api.Value{Kind: api.Rat, N: 2, D: 4})}}, api.ErrKind}, {api.Point{Time: 9, Events: []api.Event{event("q", num(1), text(strings.Repeat("a", 65)))}}, api.ErrLong},
		{api.Point{Time: 9, Events: []api.Event{wrong}}, api.ErrType}, {api.Point{Time: 9, Events: []api.Event{event("g")}}, api.ErrType}, {api.Point{Time: 9, Events: []api.Event{event("p")}}, api.ErrType}, {api.Point{Time: 9, Events: []api.Event{event("p", num(1), num(2))}}, api.ErrType}, {api.Point{Time: 9, Events: []api.Event{event("p", num(1)), event("e", num(1), text(""))}}, api.ErrType}, {api.Point{Time: 9, Events: []api.Event{event("o", num(1))}}, api.ErrType},
		{api.Point{Time: 4}, api.ErrTime}, {api.Point{}, api.ErrTime},
		// Several at once.
		{api.Point{Time: -1, Events: slices.Repeat([]api.Event{wrong}, 65)}, api.ErrRange}, {api.Point{Time: 9, Events: slices.Repeat([]api.Event{wrong}, 65)}, api.ErrMany}, {api.Point{Time: 4, Events: slices.Repeat([]api.Event{wrong}, 65)}, api.ErrMany}, {api.Point{Time: 4, Events: []api.Event{wrong}}, api.ErrType}, {api.Point{Time: 4, Events: []api.Event{event("p", api.Value{Kind: 9})}}, api.ErrKind}, {api.Point{Time: 9, Events: []api.Event{wrong, event("p", api.Value{})}}, api.ErrType}, {api.Point{Time: 9, Events: []api.Event{event("p", api.Value{}), wrong}}, api.ErrKind},
	} {
		if x.want != api.ErrTime {
			isRefused(t, begun(t, sig, f), x.p, x.want)
		}
		e := begun(t, sig, f)
		for _, time := range []int64{0, 3, 5} {
			if _, err := e.Step(api.Point{Time: time, Events: []api.Event{event("p", num(time))}}); err != api.OK {
				t.Fatal(n, err)
			}
		}
		if e.Told() != 1 {
			t.Fatal(e.Told())
		}
		isRefused(t, e, x.p, x.want)
	}
}

// TestManyPoints: P17.2, MaxPoints points and one more; what is wrong with that one otherwise is told first.
func TestManyPoints(t *testing.T) {
	sig := signature(t)
	for n, x := range []struct {
		p    api.Point
		want api.Errno
	}{
		{api.Point{Time: 5000}, api.ErrMany}, {api.Point{Time: 4095}, api.ErrMany}, {api.Point{Time: 4094}, api.ErrTime}, {api.Point{Time: -1}, api.ErrRange}, {api.Point{Time: 5000, Events: []api.Event{event("p")}}, api.ErrType},
	} {
		e := begun(t, sig, formula(t, []string{"(soon [0,9] (p x))", "(once [0,9] (p x))", "(p x)", "(since [0,9] true (p x))", "true"}[n]))
		for i := range api.MaxPoints {
			l, err := e.Step(api.Point{Time: int64(i), Events: []api.Event{event("p", num(int64(i)))}})
			if reach := int(e.Reach()); err != api.OK || len(l) != min(1, max(0, i-reach)) || len(l) == 1 && l[0].At != i-reach-1 {
				t.Fatal(strconv.Itoa(i), l, err)
			}
		}
		if e.Points() != api.MaxPoints {
			t.Error(e.Points())
		}
		isRefused(t, e, x.p, x.want)
	}
}
