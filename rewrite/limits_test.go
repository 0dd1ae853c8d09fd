package rewrite_test

import (
	"reflect"
	"slices"
	"strings"
	"testing"
	"unsafe"

	"custos/api"
	"custos/ast"
	"custos/rewrite"
	"custos/static"
)

// TestOrders: P16.6, the four in every order: what comes of it means the same.
func TestOrders(t *testing.T) {
	t.Parallel()
	s := stream(164)
	four := calls()[:4]
	for range 250 {
		f := s.made(5)
		var others []api.Formula
		for n := range 24 {
			g := f
			for _, i := range order(n) {
				h, e := four[i].does(g)
				if e != api.OK {
					t.Fatal(textOf(f), textOf(g), four[i].name, e)
				}
				isNoGreater(t, four[i], g, h)
				g = h
			}
			if !slices.ContainsFunc(others, func(h api.Formula) bool { return ast.Same(g, h) }) {
				others = append(others, g)
			}
		}
		meansTheSame(t, &s, f, 3, others...)
	}
}

// order is one of the 24 orders of four.
func order(n int) []int {
	left := []int{0, 1, 2, 3}
	var l []int
	for k := 4; k > 0; k-- {
		l = append(l, left[n%k])
		left = slices.Delete(left, n%k, n%k+1)
		n /= k
	}
	return l
}

// TestQuiet: P16.4, what comes of a formula that is quiet is, and of one that is not may be, where what may be over is let go with the rest.
func TestQuiet(t *testing.T) {
	for _, s := range []string{"(let l (x) (and (p x) (< (+ x 1) 2)) (q))", "(let l (y) (agg y sum x () (p x)) (q))"} {
		f := formula(t, s)
		g, e := rewrite.Lets(f)
		if static.Quiet(f) || !static.Quiet(g) || e != api.OK {
			t.Error(s, textOf(g), e)
		}
	}
	// What may be over is not let go where it is asked for.
	for _, s := range []string{"(and (q) (and (p x) (< (+ x 1) 2)))", "(or (exists (x) (and (p x) (< (+ x 1) 2))) true)", "(and false (exists (x) (= x (+ 9223372036854775807 1))))"} {
		for _, c := range calls() {
			stays(t, c, s)
		}
	}
}

// nested is a formula within that many others.
func nested(f api.Formula, n int, in func(api.Formula) api.Formula) api.Formula {
	for range n {
		f = in(f)
	}
	return f
}

// TestAtTheLimits: P16.1 to P16.4, as many nodes as may be, and as deep.
func TestAtTheLimits(t *testing.T) {
	yes, no, q := of(api.True), of(api.False), formula(t, "(q)")
	many := func(n int, f api.Formula) api.Formula { return of(api.Join, slices.Repeat([]api.Formula{f}, n)...) }
	not := func(f api.Formula) api.Formula { return of(api.Not, f) }
	for _, x := range []struct {
		c     call
		f, to api.Formula
		nodes int
	}{
		{units, many(255, yes), many(255, yes), 256}, {units, of(api.And, many(253, yes), yes), many(253, yes), 256}, {units, of(api.Or, no, many(253, yes)), many(253, yes), 256}, {units, of(api.And, many(126, yes), many(126, yes)), many(126, yes), 255}, {units, not(of(api.And, not(yes), many(251, yes))), not(of(api.And, no, many(251, yes))), 256},
		{nots, not(not(many(253, yes))), many(253, yes), 256}, {nots, not(not(not(many(252, yes)))), not(many(252, yes)), 256},
		{joins, of(api.And, many(126, yes), many(127, yes)), many(253, yes), 256}, {joins, many(1, many(254, yes)), many(254, yes), 256}, {joins, of(api.And, of(api.And, yes, many(251, yes)), yes), many(253, yes), 256},
		{lets, api.Formula{Kind: api.Let, Name: "l", Subs: []api.Formula{many(127, yes), many(126, yes)}}, many(126, yes), 256}, {lets, api.Formula{Kind: api.Let, Name: "l", Subs: []api.Formula{many(126, yes), of(api.Join, append(slices.Repeat([]api.Formula{yes}, 126), formula(t, "(l)"))...)}}, of(api.Join, append(slices.Repeat([]api.Formula{yes}, 126), many(126, yes))...), 256},
		{nots, nested(yes, 23, not), not(yes), 24}, {nots, nested(yes, 22, not), yes, 23}, {units, nested(yes, 23, not), no, 24}, {units, nested(yes, 22, not), yes, 23}, {units, nested(q, 23, func(f api.Formula) api.Formula { return of(api.And, yes, f) }), q, 47}, {units, nested(q, 23, func(f api.Formula) api.Formula { return of(api.Or, f, no) }), q, 47}, {units, nested(q, 23, func(f api.Formula) api.Formula { return of(api.Join, f) }), q, 24},
		{joins, nested(q, 23, func(f api.Formula) api.Formula { return of(api.And, f, q) }), many(24, q), 47}, {joins, nested(q, 23, func(f api.Formula) api.Formula { return of(api.And, q, f) }), many(24, q), 47}, {joins, nested(q, 23, func(f api.Formula) api.Formula { return of(api.Join, f) }), many(1, q), 24}, {joins, nested(q, 23, func(f api.Formula) api.Formula { return of(api.Join, q, f) }), many(24, q), 47},
		{lets, nested(q, 23, func(f api.Formula) api.Formula {
			return api.Formula{Kind: api.Let, Name: "l", Subs: []api.Formula{f, formula(t, "(l)")}}
		}), q, 47}, {lets, nested(q, 23, func(f api.Formula) api.Formula {
			return api.Formula{Kind: api.LetPast, Name: "l", Subs: []api.Formula{q, f}}
		}), q, 47}, {lets, nested(formula(t, "(l)"), 23, func(f api.Formula) api.Formula {
			return api.Formula{Kind: api.Let, Name: "l", Subs: []api.Formula{formula(t, "(l)"), f}}
		}), formula(t, "(l)"), 47},
	} {
		if n := ast.Nodes(x.f); n != x.nodes {
			t.Errorf("%s: %d nodes, not %d", textOf(x.f), n, x.nodes)
		}
		if g, e := x.c.does(x.f); e != api.OK || !ast.Same(g, x.to) {
			t.Errorf("%s of %s: %s, %d", x.c.name, textOf(x.f), textOf(g), e)
		}
		asPromised(t, x.f)
	}
}

// TestGreat: R1, R6, great formulas with many cases, and such as are refused, are answered, and in time.
func TestGreat(t *testing.T) {
	yes := of(api.True)
	not := func(f api.Formula) api.Formula { return of(api.Not, f) }
	var names int
	// Nots of which no two are the same: nothing of them is let go, and no Join is made of them.
	fresh := func() api.Formula {
		names++
		return not(formula(t, "(q"+strings.Repeat("a", names/26)+string(rune('a'+names%26))+")"))
	}
	tree := func(n int) api.Formula {
		f := fresh()
		for range n - 1 {
			f = of(api.And, f, fresh())
		}
		return f
	}
	comb := fresh()
	for range 9 {
		comb = of(api.And, of(api.And, comb, of(api.And, tree(3), tree(3))), yes)
	}
	asPromised(t, comb)
	asPromised(t, nested(fresh(), 19, func(f api.Formula) api.Formula { return of(api.And, f, tree(4)) }))
	asPromised(t, nested(yes, 19, func(f api.Formula) api.Formula { return of(api.And, f, tree(4)) }))
	lets := formula(t, "(q)")
	for range 5 {
		names++
		name := "l" + string(rune('a'+names%26))
		lets = api.Formula{Kind: api.Let, Name: name, Subs: []api.Formula{lets, of(api.And, not(lets), formula(t, "(once [0,1] ("+name+"))"))}}
	}
	asPromised(t, lets)

	refused(t, of(api.Join, slices.Repeat([]api.Formula{yes}, 1<<20)...), api.ErrMany)
	refused(t, of(api.Join, make([]api.Formula, 1<<20)...), api.ErrKind)
	refused(t, nested(yes, 1<<16-2, not), api.ErrDeep)
	refused(t, nested(yes, 100, func(f api.Formula) api.Formula { return of(api.And, f, f) }), api.ErrDeep)
	refused(t, nested(yes, 20, func(f api.Formula) api.Formula { return of(api.And, f, f) }), api.ErrMany)
}

// memory is all that a value reaches, spare room and texts with it, a place for each list or text.
func memory(v reflect.Value, l [][2]uintptr) [][2]uintptr {
	switch v.Kind() {
	case reflect.Struct:
		for i := range v.NumField() {
			l = memory(v.Field(i), l)
		}
	case reflect.Slice:
		if v.Cap() > 0 {
			l = append(l, [2]uintptr{v.Pointer(), v.Pointer() + uintptr(v.Cap())*v.Type().Elem().Size()})
		}
		for i := range v.Len() {
			l = memory(v.Index(i), l)
		}
	case reflect.String:
		if s := v.String(); s != "" {
			from := uintptr(unsafe.Pointer(unsafe.StringData(s)))
			l = append(l, [2]uintptr{from, from + uintptr(len(s))})
		}
	}
	return l
}

// isNew asks that an answer shares nothing with the argument, nor within itself.
func isNew(t *testing.T, answer, argument api.Formula) {
	t.Helper()
	ours, theirs := memory(reflect.ValueOf(answer), nil), memory(reflect.ValueOf(argument), nil)
	for i, a := range ours {
		meets := func(b [2]uintptr) bool { return a[0] < b[1] && b[0] < a[1] }
		if slices.ContainsFunc(theirs, meets) {
			t.Fatal("shares with the argument", textOf(answer))
		}
		if slices.ContainsFunc(ours[:i], meets) {
			t.Fatal("shares within itself", textOf(answer))
		}
	}
}

// roomy is a list with something in the spare room behind it, and room what stands there.
func roomy[T any](l []T, more T) []T { return append(slices.Grow(slices.Clip(l), 2), more)[:len(l)] }

func room[T any](l []T) T { return l[: len(l)+1 : len(l)+1][len(l)] }

func roomyFormula(f api.Formula) api.Formula {
	f.Vars = roomy(f.Vars, "spare")
	f.Terms = roomy(f.Terms, api.Term{Kind: 77})
	for i, g := range f.Subs {
		f.Subs[i] = roomyFormula(g)
	}
	f.Subs = roomy(f.Subs, api.Formula{Kind: 77})
	for i, r := range f.Regex {
		f.Regex[i] = roomyRegex(r)
	}
	f.Regex = roomy(f.Regex, api.Regex{Kind: 77})
	return f
}

func roomyRegex(r api.Regex) api.Regex {
	for i, g := range r.Test {
		r.Test[i] = roomyFormula(g)
	}
	for i, s := range r.Subs {
		r.Subs[i] = roomyRegex(s)
	}
	r.Test, r.Subs = roomy(r.Test, api.Formula{Kind: 77}), roomy(r.Subs, api.Regex{Kind: 77})
	return r
}

func keepsRoom(f api.Formula) bool {
	return room(f.Vars) == "spare" && room(f.Terms).Kind == 77 && room(f.Subs).Kind == 77 && room(f.Regex).Kind == 77 &&
		!slices.ContainsFunc(f.Subs, func(g api.Formula) bool { return !keepsRoom(g) }) && !slices.ContainsFunc(f.Regex, func(r api.Regex) bool { return !keepsRoomOf(r) })
}

func keepsRoomOf(r api.Regex) bool {
	return room(r.Test).Kind == 77 && room(r.Subs).Kind == 77 &&
		!slices.ContainsFunc(r.Test, func(g api.Formula) bool { return !keepsRoom(g) }) && !slices.ContainsFunc(r.Subs, func(s api.Regex) bool { return !keepsRoomOf(s) })
}

// TestMemory: R4, what is handed in stays as it is, with its spare room; what is told is the caller's own.
func TestMemory(t *testing.T) {
	s := stream(165)
	for range 2000 {
		f := roomyFormula(ast.Clone(s.made(5)))
		was := ast.Clone(f)
		for _, c := range calls() {
			g, e := c.does(f)
			if e != api.OK || !ast.Same(f, was) || !keepsRoom(f) {
				t.Fatal(c.name, textOf(was), textOf(f), e)
			}
			isNew(t, g, f)
		}
	}
}

// TestOneAnswer: R5, a call answers the same whatever was asked ahead of it, and whatever is done with what it told; nil lists are empty ones (R3).
func TestOneAnswer(t *testing.T) {
	s := stream(166)
	for range 500 {
		f := s.made(5)
		for _, c := range calls() {
			g, _ := c.does(f)
			was := ast.Clone(g)
			overwrite(&g)
			c.does(s.made(3))
			c.does(api.Formula{})
			if again, e := c.does(withEmpties(ast.Clone(f))); e != api.OK || !ast.Same(again, was) {
				t.Fatal(c.name, textOf(f), textOf(was), textOf(again), e)
			}
		}
	}
}

func overwrite(f *api.Formula) {
	for i := range f.Vars {
		f.Vars[i] = "other"
	}
	for i := range f.Terms {
		f.Terms[i] = api.Term{Kind: 77}
	}
	for _, g := range testsOf(f.Regex) {
		overwrite(g)
	}
	for i := range f.Subs {
		overwrite(&f.Subs[i])
	}
	f.Kind, f.Name = 77, "other"
}

// withEmpties has no nil lists among those of its formulas.
func withEmpties(f api.Formula) api.Formula {
	for _, g := range testsOf(f.Regex) {
		*g = withEmpties(*g)
	}
	for i, g := range f.Subs {
		f.Subs[i] = withEmpties(g)
	}
	f.Vars, f.Terms, f.Regex, f.Subs = append([]string{}, f.Vars...), append([]api.Term{}, f.Terms...), append([]api.Regex{}, f.Regex...), append([]api.Formula{}, f.Subs...)
	return f
}
