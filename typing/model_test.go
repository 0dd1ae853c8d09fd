package typing_test

import (
	"fmt"
	"maps"
	"reflect"
	"slices"
	"strings"
	"testing"
	"unsafe"

	"custos/api"
	"custos/ast"
	"custos/syntax"
	"custos/trace"
	"custos/typing"
)

// stream is a row of numbers that look like chance and are the same each time.
type stream uint64

func (s *stream) next() uint64 {
	x := uint64(*s)
	x ^= x << 13
	x ^= x >> 7
	x ^= x << 17
	*s = stream(x)
	return x
}

func (s *stream) below(n int) int { return int(s.next() % uint64(n)) }

func (s *stream) chance(n int) bool { return s.below(n) == 0 }

func pick[T any](s *stream, l ...T) T { return l[s.below(len(l))] }

// kinds are those of some variables, preds those of predicates' arguments.
type (
	kinds map[string]int
	preds map[string][]int
)

// with is a copy in which the names have kinds of their own.
func (k kinds) with(more kinds) kinds {
	both := maps.Clone(k)
	maps.Copy(both, more)
	return both
}

func (p preds) with(name string, args []int) preds {
	both := maps.Clone(p)
	both[name] = args
	return both
}

// each tells all that the kinds of some variables could be, until it is stopped.
func each(names []string, told func(kinds) bool) bool {
	if len(names) == 0 {
		return told(kinds{})
	}
	return each(names[1:], func(k kinds) bool {
		for kind := 1; kind <= 3; kind++ {
			if !told(k.with(kinds{names[0]: kind})) {
				return false
			}
		}
		return true
	})
}

func union(lists ...[]string) []string {
	all := slices.Concat(lists...)
	slices.Sort(all)
	return slices.Compact(all)
}

// way is one in which the kinds of a part fit: those of its Aggs, in the order of the text. Of more than two just two are told.
type way []int

// and is each way of one part with each of another, which is not gone through if there is none.
func and(a []way, others func() []way) []way {
	if len(a) == 0 {
		return nil
	}
	var l []way
	b := others()
	for _, x := range a {
		for _, y := range b {
			l = append(l, slices.Concat(x, y))
		}
	}
	return l[:min(2, len(l))]
}

// over are the ways of all that the kinds of some variables could be.
func over(names []string, ways func(kinds) []way) []way {
	var l []way
	each(names, func(k kinds) bool {
		l = append(l, ways(k)...)
		return len(l) < 2
	})
	return l[:min(2, len(l))]
}

func only(fits bool) []way {
	if fits {
		return []way{nil}
	}
	return nil
}

// ways are those in which the places within a part can have kinds, if its free variables and its predicates have these. Each one is tried.
func ways(f api.Formula, k kinds, p preds) []way {
	switch f.Kind {
	case api.Pred:
		args, ok := p[f.Name]
		return only(ok && slices.EqualFunc(args, f.Terms, func(kind int, t api.Term) bool { return kindOf(t, k) == kind }))
	case api.Equal, api.Less, api.AtMost:
		a, b := kindOf(f.Terms[0], k), kindOf(f.Terms[1], k)
		return only(a == b && a != 0)
	case api.Exists:
		return over(f.Vars, func(own kinds) []way { return ways(f.Subs[0], k.with(own), p) })
	case api.Agg:
		return aggWays(f, k, p)
	case api.Let, api.LetPast:
		return letWays(f, k, p)
	}
	l := []way{nil}
	for _, g := range f.Subs {
		l = and(l, func() []way { return ways(g, k, p) })
	}
	for _, r := range f.Regex {
		l = and(l, func() []way { return regexWays(r, k, p) })
	}
	return l
}

func regexWays(r api.Regex, k kinds, p preds) []way {
	l := []way{nil}
	for _, g := range r.Test {
		l = and(l, func() []way { return ways(g, k, p) })
	}
	for _, s := range r.Subs {
		l = and(l, func() []way { return regexWays(s, k, p) })
	}
	return l
}

func aggWays(f api.Formula, k kinds, p preds) []way {
	x, groups := f.Vars[0], f.Vars[1:]
	own := slices.DeleteFunc(union(ast.Free(f.Subs[0]), []string{x}), func(name string) bool { return slices.Contains(groups, name) })
	return over(own, func(inner kinds) []way {
		of, y := inner[x], k[f.Name]
		made := []int{0, of, api.Int, of, of, api.Rat, api.Rat}[f.Op]
		counts := []bool{false, true, false, false, false, true, true}[f.Op]
		if y != made || counts && of == api.Str {
			return nil
		}
		for _, group := range groups {
			inner[group] = k[group]
		}
		return and([]way{{of}}, func() []way { return ways(f.Subs[0], inner, p) })
	})
}

func letWays(f api.Formula, k kinds, p preds) []way {
	return over(union(ast.Free(f.Subs[0]), f.Vars), func(own kinds) []way {
		var args []int
		for _, x := range f.Vars {
			args = append(args, own[x])
		}
		told := p.with(f.Name, args)
		first := p
		if f.Kind == api.LetPast {
			first = told
		}
		return and(ways(f.Subs[0], own, first), func() []way { return ways(f.Subs[1], k, told) })
	})
}

// kindOf is a term's kind, 0 if its parts have none that fit.
func kindOf(t api.Term, k kinds) int {
	switch t.Kind {
	case api.Var:
		return k[t.Name]
	case api.Const:
		return t.Value.Kind
	}
	a, b := kindOf(t.Subs[0], k), kindOf(t.Subs[1], k)
	if a != b || a == api.Str {
		return 0
	}
	return a
}

// meant is what P9.1 says of a formula that may be, and in how many ways kinds fit: none, one, or two at least.
func meant(sig []api.Decl, f api.Formula) (typing.Found, int) {
	p := preds{}
	for _, d := range sig {
		p[d.Name] = d.Kinds
	}
	var found typing.Found
	n := len(over(ast.Free(f), func(k kinds) []way {
		l := ways(f, k, p)
		if len(l) > 0 {
			found = typing.Found{Aggs: l[0]}
			for _, x := range ast.Free(f) {
				found.Free = append(found.Free, api.Decl{Name: x, Kinds: []int{k[x]}})
			}
		}
		return l
	}))
	if n != 1 {
		return typing.Found{}, n
	}
	return found, 1
}

func alike(a, b typing.Found) bool {
	return slices.Equal(a.Aggs, b.Aggs) && slices.EqualFunc(a.Free, b.Free, func(x, y api.Decl) bool { return x.Name == y.Name && slices.Equal(x.Kinds, y.Kinds) })
}

// asMeant holds what is answered against the model, and tells in how many ways kinds fit.
func asMeant(t *testing.T, sig []api.Decl, f api.Formula) int {
	t.Helper()
	want, n := meant(sig, f)
	wantE := api.ErrType
	if n == 1 {
		wantE = api.OK
	}
	if got, e := typing.Infer(sig, f); e != wantE || !alike(got, want) {
		text, _ := syntax.Print(f)
		t.Fatalf("%v: %s: %v, %d, want %v, %d ways", sig, text, got, e, want, n)
	}
	return n
}

// TestAllSmall: P9.1, P9.2, all pairs of parts that are each one atom within one other formula.
func TestAllSmall(t *testing.T) {
	sig := signature(t, "p int\nq int str\ns str")
	atoms := []string{"true", "(p x)", "(q y x)", "(s x)", "(= x y)", "(< x 1/2)", "(<= y (+ x x))", "(r x)", "(r y x)"}
	around := []string{
		"%s", "(not %s)", "(exists (x) %s)", "(exists (y x) %s)", "(agg y max x () %s)", "(agg x cnt y (z) %s)", "(agg x avg x (y) %s)", "(agg x sum y (z) %s)",
		"(let r (x) %s (r y))", "(let r (y x) %s (s x))", "(letpast r (x) %s (r y))", "(let p (x) (s x) %s)", "(let r (x) true %s)", "(letpast s (z) (and (s z) (= z x)) %s)", "(before [0,1] (test %s))",
	}
	var parts []string
	for _, g := range around {
		for _, a := range atoms {
			parts = append(parts, fmt.Sprintf(g, a))
		}
	}
	var count [3]int
	for _, a := range parts {
		count[asMeant(t, sig, formula(t, a))]++
		for _, b := range parts {
			count[asMeant(t, sig, formula(t, "(and "+a+" "+b+")"))]++
		}
	}
	if slices.Min(count[:]) < 500 {
		t.Error(count)
	}
}

// TestAllNested: P9.1, all rows of three formulas around an atom.
func TestAllNested(t *testing.T) {
	sig := signature(t, "p int\nq int str\ns str")
	around := []string{
		"(and %s (= x y))", "(exists (x) %s)", "(exists (y) (and (s y) %s))", "(agg y max x () %s)", "(agg n cnt x (y) %s)", "(agg x sum y () (and %s (= y z)))",
		"(let r (x) %s (r y))", "(let r (x) (= x y) (and (r x) %s))", "(letpast r (x) (and %s (= y y)) (r 1))", "(letpast r (x y) %s (r y x))", "(let s (x) (and (s y) (p x)) %s)",
	}
	var count [3]int
	for _, a := range []string{"(q x y)", "(= x (* y z))", "(r x)", "(r y x)"} {
		for _, b := range around {
			for _, c := range around {
				for _, d := range around {
					f := fmt.Sprintf(d, fmt.Sprintf(c, fmt.Sprintf(b, a)))
					count[asMeant(t, sig, formula(t, f))]++
				}
			}
		}
	}
	if slices.Min(count[:]) < 200 {
		t.Error(count)
	}
}

// maker makes formulas whose kinds fit, but for a slip now and then.
type maker struct {
	*stream
	slips int
}

func (m maker) kind() int { return m.below(3) + 1 }

func (m maker) constant(kind int) api.Term {
	v := api.Value{Kind: kind}
	switch kind {
	case api.Int:
		v.N = int64(m.below(3))
	case api.Rat:
		v.N, v.D = 1, int64(m.below(3)+1)
	case api.Str:
		v.S = "a"
	}
	return api.Term{Kind: api.Const, Value: v}
}

func (m maker) term(kind, depth int, k kinds) api.Term {
	if m.slips > 0 && m.chance(m.slips) {
		kind = m.kind()
	}
	if depth > 0 && kind != api.Str && m.chance(3) {
		return api.Term{Kind: pick(m.stream, api.Add, api.Sub, api.Mul), Subs: []api.Term{m.term(kind, depth-1, k), m.term(kind, depth-1, k)}}
	}
	var fitting []string
	for _, x := range slices.Sorted(maps.Keys(k)) {
		if k[x] == kind {
			fitting = append(fitting, x)
		}
	}
	if len(fitting) == 0 || m.chance(6) {
		return m.constant(kind)
	}
	return api.Term{Kind: api.Var, Name: pick(m.stream, fitting...)}
}

func (m maker) someKinds() kinds {
	k := kinds{}
	for _, x := range []string{"x", "y", "z"} {
		if !m.chance(3) {
			k[x] = m.kind()
		}
	}
	return k
}

func (m maker) atom(k kinds, p preds) api.Formula {
	names := slices.Sorted(maps.Keys(p))
	if len(names) == 0 || m.chance(4) {
		kind := m.kind()
		return api.Formula{Kind: pick(m.stream, api.Equal, api.Less, api.AtMost), Terms: []api.Term{m.term(kind, 1, k), m.term(kind, 1, k)}}
	}
	f := api.Formula{Kind: api.Pred, Name: pick(m.stream, names...)}
	for _, kind := range p[f.Name] {
		f.Terms = append(f.Terms, m.term(kind, 1, k))
	}
	return f
}

func (m maker) formula(depth int, k kinds, p preds) api.Formula {
	if depth == 0 {
		return m.atom(k, p)
	}
	i := api.Interval{Lo: 0, Hi: int64(m.below(5))}
	switch m.below(12) {
	case 0:
		return api.Formula{Kind: api.Not, Subs: []api.Formula{m.formula(depth-1, k, p)}}
	case 1:
		return api.Formula{Kind: pick(m.stream, api.Prev, api.Next, api.Once, api.Soon), I: i, Subs: []api.Formula{m.formula(depth-1, k, p)}}
	case 2:
		return api.Formula{Kind: pick(m.stream, api.Since, api.Until), I: i, Subs: []api.Formula{m.formula(depth-1, k, p), m.formula(depth-1, k, p)}}
	case 3:
		return api.Formula{Kind: pick(m.stream, api.Before, api.After), I: i, Regex: []api.Regex{m.regex(depth-1, k, p)}}
	case 4, 5:
		own := m.someKinds()
		own["x"] = m.kind()
		return api.Formula{Kind: api.Exists, Vars: slices.Sorted(maps.Keys(own)), Subs: []api.Formula{m.formula(depth-1, k.with(own), p)}}
	case 6, 7:
		return m.agg(depth-1, k, p)
	case 8, 9:
		return m.let(depth-1, k, p)
	}
	f := api.Formula{Kind: api.Join}
	for range 1 + m.below(3) {
		f.Subs = append(f.Subs, m.formula(m.below(depth), k, p))
	}
	if len(f.Subs) == 2 {
		f.Kind = pick(m.stream, api.And, api.Or)
	}
	return f
}

func (m maker) regex(depth int, k kinds, p preds) api.Regex {
	switch m.below(5) {
	case 0:
		return api.Regex{Kind: api.Any}
	case 1:
		return api.Regex{Kind: api.Star, Subs: []api.Regex{m.regex(depth, k, p)}}
	case 2:
		return api.Regex{Kind: pick(m.stream, api.Alt, api.Seq), Subs: []api.Regex{m.regex(depth, k, p), m.regex(depth, k, p)}}
	}
	return api.Regex{Kind: api.Test, Test: []api.Formula{m.formula(m.below(depth+1), k, p)}}
}

// agg has a Name of a kind that its operation can make, if there is one.
func (m maker) agg(depth int, k kinds, p preds) api.Formula {
	own := m.someKinds()
	x := pick(m.stream, "x", "y", "z")
	own[x] = m.kind()
	f := api.Formula{Kind: api.Agg, Op: 1 + m.below(6), Vars: []string{x}}
	y := map[int]int{api.Cnt: api.Int, api.Avg: api.Rat, api.Med: api.Rat}[f.Op]
	if y == 0 {
		y = own[x]
	}
	names := slices.Sorted(maps.Keys(k))
	i := slices.IndexFunc(names, func(name string) bool { return k[name] == y })
	if i < 0 {
		return m.formula(depth, k, p)
	}
	f.Name = names[i]
	for _, group := range names {
		if group != x && group != f.Name && m.chance(2) {
			f.Vars = append(f.Vars, group)
			own[group] = k[group]
		}
	}
	f.Subs = []api.Formula{{Kind: api.And, Subs: []api.Formula{m.formula(depth, own, p), m.atom(own, p)}}}
	return f
}

func (m maker) let(depth int, k kinds, p preds) api.Formula {
	own := m.someKinds()
	f := api.Formula{Kind: pick(m.stream, api.Let, api.LetPast), Name: pick(m.stream, "p", "q", "r", "u")}
	var args []int
	for _, x := range slices.Sorted(maps.Keys(own)) {
		if m.chance(2) {
			f.Vars = append(f.Vars, x)
			args = append(args, own[x])
		}
	}
	told, first := p.with(f.Name, args), p
	if f.Kind == api.LetPast {
		first = told
	}
	f.Subs = []api.Formula{m.formula(depth, own, first), m.formula(depth, k, told)}
	return f
}

// made is a formula under a signature, small enough that all its kinds can be tried.
func (m maker) made() ([]api.Decl, api.Formula) {
	for {
		p := preds{}
		var sig []api.Decl
		for _, name := range []string{"p", "q", "r"} {
			d := api.Decl{Name: name}
			for range m.below(4) {
				d.Kinds = append(d.Kinds, m.kind())
			}
			if !m.chance(6) {
				sig = append(sig, d)
				p[name] = d.Kinds
			}
		}
		f := m.formula(1+m.below(4), m.someKinds(), p)
		if ast.Check(f) == api.OK && places(f) <= 11 {
			return sig, f
		}
	}
}

// places are about as many as variables are told anew, and free ones.
func places(f api.Formula) int {
	n := len(ast.Free(f))
	var count func(f api.Formula)
	var countRegex func(r api.Regex)
	count = func(f api.Formula) {
		switch f.Kind {
		case api.Exists:
			n += len(f.Vars)
		case api.Agg, api.Let, api.LetPast:
			n += len(union(ast.Free(f.Subs[0]), f.Vars))
		}
		for _, g := range f.Subs {
			count(g)
		}
		for _, r := range f.Regex {
			countRegex(r)
		}
	}
	countRegex = func(r api.Regex) {
		for _, g := range r.Test {
			count(g)
		}
		for _, s := range r.Subs {
			countRegex(s)
		}
	}
	count(f)
	return n
}

// TestMade: P9.1, made formulas, with and without slips, held against the model.
func TestMade(t *testing.T) {
	s := stream(90)
	var count [3]int
	for i := range 12000 {
		m := maker{&s, []int{0, 30, 8}[i%3]}
		sig, f := m.made()
		count[asMeant(t, sig, f)]++
	}
	if slices.Min(count[:]) < 1000 {
		t.Error(count)
	}
}

// renamed is a formula with the names of variables changed, all of them, bound ones too.
func renamed(f api.Formula, to map[string]string) api.Formula {
	f = ast.Clone(f)
	if f.Kind == api.Agg {
		f.Name = to[f.Name]
	}
	for i, x := range f.Vars {
		f.Vars[i] = to[x]
	}
	for i, t := range f.Terms {
		f.Terms[i] = renamedTerm(t, to)
	}
	for i, g := range f.Subs {
		f.Subs[i] = renamed(g, to)
	}
	for i, r := range f.Regex {
		f.Regex[i] = renamedRegex(r, to)
	}
	return f
}

func renamedTerm(t api.Term, to map[string]string) api.Term {
	t.Name = to[t.Name]
	for i, s := range t.Subs {
		t.Subs[i] = renamedTerm(s, to)
	}
	return t
}

func renamedRegex(r api.Regex, to map[string]string) api.Regex {
	for i, g := range r.Test {
		r.Test[i] = renamed(g, to)
	}
	for i, s := range r.Subs {
		r.Subs[i] = renamedRegex(s, to)
	}
	return r
}

// TestRenamed: P9.2, with the names of variables changed, one for one, the kinds are the same.
func TestRenamed(t *testing.T) {
	s := stream(91)
	changes := []map[string]string{{"x": "y", "y": "z", "z": "x"}, {"x": "z", "y": "y", "z": "x"}, {"x": "p", "y": "q", "z": "r"}, {"x": "sum", "y": "abcdefghijklmnop", "z": "a"}}
	good := 0
	for range 4000 {
		sig, f := maker{&s, pick(&s, 0, 0, 20)}.made()
		found, e := typing.Infer(sig, f)
		for _, to := range changes {
			want := typing.Found{Aggs: found.Aggs}
			for _, d := range found.Free {
				want.Free = append(want.Free, api.Decl{Name: to[d.Name], Kinds: d.Kinds})
			}
			slices.SortFunc(want.Free, func(a, b api.Decl) int { return strings.Compare(a.Name, b.Name) })
			if got, gotE := typing.Infer(sig, renamed(f, to)); gotE != e || !alike(got, want) {
				t.Fatal(f, to, got, gotE, want, e)
			}
		}
		if e == api.OK && len(found.Free) > 0 {
			good++
		}
	}
	if good < 500 {
		t.Error(good)
	}
}

// partsFrom are the parts to which a path leads that goes through no Let, Exists or Agg.
func partsFrom(f api.Formula) []api.Formula {
	var l []api.Formula
	if f.Kind == api.Let || f.Kind == api.LetPast || f.Kind == api.Exists || f.Kind == api.Agg {
		return nil
	}
	for i := 0; ; i++ {
		g, e := ast.Part(f, []int{i})
		if e != api.OK {
			return l
		}
		l = append(append(l, g), partsFrom(g)...)
	}
}

// TestParts: P9.2, of each part of a formula whose kinds are found they are found, and are the same; or they are found more than one way.
func TestParts(t *testing.T) {
	s := stream(92)
	var count [3]int
	for range 6000 {
		sig, f := maker{&s, 0}.made()
		whole, e := typing.Infer(sig, f)
		if e != api.OK {
			continue
		}
		for _, g := range partsFrom(f) {
			n := asMeant(t, sig, g)
			count[n]++
			part, _ := typing.Infer(sig, g)
			for _, d := range part.Free {
				if !slices.ContainsFunc(whole.Free, func(other api.Decl) bool { return other.Name == d.Name && slices.Equal(other.Kinds, d.Kinds) }) {
					t.Fatal(f, whole, g, part)
				}
			}
		}
	}
	if count[0] > 0 || count[1] < 1000 || count[2] < 100 {
		t.Error(count)
	}
}

// memory is all that a value reaches, spare room and texts with it, a place for each list or text.
func memory(v reflect.Value, l [][2]uintptr) [][2]uintptr {
	switch v.Kind() {
	case reflect.Struct:
		for i := range v.NumField() {
			l = memory(v.Field(i), l)
		}
	case reflect.Slice:
		if v.Cap() > 0 {
			l = append(l, [2]uintptr{v.Pointer(), v.Pointer() + uintptr(v.Cap())*v.Type().Elem().Size()})
		}
		for i := range v.Len() {
			l = memory(v.Index(i), l)
		}
	case reflect.String:
		if s := v.String(); s != "" {
			from := uintptr(unsafe.Pointer(unsafe.StringData(s)))
			l = append(l, [2]uintptr{from, from + uintptr(len(s))})
		}
	}
	return l
}

func meet(a, b [2]uintptr) bool { return a[0] < b[1] && b[0] < a[1] }

// isNew asks that an answer shares nothing with an argument, nor within itself.
func isNew(t *testing.T, answer any, arguments ...any) {
	t.Helper()
	ours := memory(reflect.ValueOf(answer), nil)
	var theirs [][2]uintptr
	for _, x := range arguments {
		theirs = memory(reflect.ValueOf(x), theirs)
	}
	for i, a := range ours {
		if slices.ContainsFunc(theirs, func(b [2]uintptr) bool { return meet(a, b) }) {
			t.Fatal("shares with an argument", answer)
		}
		if slices.ContainsFunc(ours[:i], func(b [2]uintptr) bool { return meet(a, b) }) {
			t.Fatal("shares within itself", answer)
		}
	}
}

// roomy is the list with something in the spare room behind it.
func roomy[T any](l []T, more T) []T { return append(slices.Grow(slices.Clip(l), 2), more)[:len(l)] }

// room is what stands behind a list.
func room[T any](l []T) T { return l[: len(l)+1 : len(l)+1][len(l)] }

// roomyFormula has spare room behind each list of formulas, variables and terms.
func roomyFormula(f api.Formula) api.Formula {
	f.Vars = roomy(f.Vars, "spare")
	f.Terms = roomy(f.Terms, api.Term{Kind: 77})
	for i, g := range f.Subs {
		f.Subs[i] = roomyFormula(g)
	}
	f.Subs = roomy(f.Subs, api.Formula{Kind: 77})
	return f
}

func keepsRoom(f api.Formula) bool {
	for _, g := range f.Subs {
		if !keepsRoom(g) {
			return false
		}
	}
	return room(f.Vars) == "spare" && room(f.Terms).Kind == 77 && room(f.Subs).Kind == 77
}

// TestMemory: R4, what is handed in stays as it is, with its spare room; what is answered is new.
func TestMemory(t *testing.T) {
	s := stream(93)
	for range 2000 {
		sig, f := maker{&s, pick(&s, 0, 0, 20)}.made()
		for i := range sig {
			sig[i].Kinds = roomy(sig[i].Kinds, 77)
		}
		sig, f = roomy(sig, api.Decl{Name: "spare"}), roomyFormula(f)
		same := fmt.Sprint(sig, f)
		found, _ := typing.Infer(sig, f)
		if fmt.Sprint(sig, f) != same || !keepsRoom(f) || room(sig).Name != "spare" {
			t.Fatal(sig, f, same)
		}
		for _, d := range sig {
			if room(d.Kinds) != 77 {
				t.Fatal(d)
			}
		}
		isNew(t, found, sig, f)
	}
}

// TestOneAnswer: R5, a call answers the same whatever was asked ahead of it, and whatever is done with what it answered.
func TestOneAnswer(t *testing.T) {
	s := stream(94)
	for range 1000 {
		sig, f := maker{&s, pick(&s, 0, 0, 20)}.made()
		found, e := typing.Infer(sig, f)
		said := fmt.Sprint(found, e)
		typing.Infer(nil, api.Formula{})
		typing.Infer(nil, formula(t, "(let p (x) (= x 1) (p x))"))
		for i := range found.Free {
			found.Free[i].Name, found.Free[i].Kinds[0] = "other", 77
		}
		for i := range found.Aggs {
			found.Aggs[i] = 77
		}
		if again, e := typing.Infer(sig, f); fmt.Sprint(again, e) != said {
			t.Fatal(sig, f, again, e, said)
		}
	}
}

// TestGreat: R1, R6, formulas and signatures at the limits, and great ones beyond, are answered, and in time.
func TestGreat(t *testing.T) {
	var sig []api.Decl
	for i := range api.MaxDecls {
		sig = append(sig, api.Decl{Name: fmt.Sprint("p", i), Kinds: slices.Repeat([]int{1 + i%3}, api.MaxArgs)})
	}
	if e := trace.CheckSignature(sig); e != api.OK {
		t.Fatal(e)
	}
	for i, d := range sig {
		f := formula(t, "("+d.Name+strings.Repeat(" x", api.MaxArgs)+")")
		if found, e := typing.Infer(sig, f); e != api.OK || found.Free[0].Kinds[0] != 1+i%3 {
			t.Error(d, found, e)
		}
	}
	deep := formula(t, "(p0 x x x x x x)")
	for range api.MaxDepth - 2 {
		deep = api.Formula{Kind: api.Exists, Vars: []string{"y"}, Subs: []api.Formula{deep}}
	}
	refuses(t, sig, deep, api.ErrType)
	nested := "(= x 1)"
	for range 11 {
		nested = "(agg x sum x () (and (= x x) " + nested + "))"
	}
	if found, e := typing.Infer(nil, formula(t, nested)); e != api.OK || inWords(found) != "x int;"+strings.Repeat(" int", 11) {
		t.Error(found, e)
	}
	wide := api.Formula{Kind: api.Join, Subs: slices.Repeat([]api.Formula{formula(t, "(= x y)")}, 84)}
	wide.Subs = append(wide.Subs, formula(t, "(= y 1/2)"))
	if found, e := typing.Infer(nil, wide); ast.Nodes(wide) != api.MaxNodes || e != api.OK || inWords(found) != "x rat, y rat" {
		t.Error(found, e)
	}
	if wide.Subs[0] = formula(t, "(= y 1)"); ast.Nodes(wide) == api.MaxNodes {
		refuses(t, nil, wide, api.ErrType)
	}
	refuses(t, nil, api.Formula{Kind: api.Join, Subs: make([]api.Formula, 1<<20)}, api.ErrKind)
	refuses(t, nil, api.Formula{Kind: api.Join, Subs: slices.Repeat([]api.Formula{{Kind: api.True}}, 1<<20)}, api.ErrMany)
	refuses(t, make([]api.Decl, 1<<20), api.Formula{}, api.ErrMany)
	far := api.Formula{Kind: api.True}
	for range 1 << 16 {
		far = api.Formula{Kind: api.Not, Subs: []api.Formula{far}}
	}
	refuses(t, nil, far, api.ErrDeep)
}
