package ast_test

import (
	"maps"
	"reflect"
	"slices"
	"strings"
	"testing"
	"unsafe"

	"custos/api"
	"custos/ast"
	"custos/value"
)

// stream is a row of numbers that look like chance and are the same each time.
type stream uint64

func (s *stream) next() uint64 {
	x := uint64(*s)
	x ^= x << 13
	x ^= x >> 7
	x ^= x << 17
	*s = stream(x)
	return x
}

func (s *stream) below(n int) int { return int(s.next() % uint64(n)) }

func pick[T any](r *stream, l ...T) T { return l[r.below(len(l))] }

// alike is the same field by field, nil lists and empty ones alike.
func alike(a, b any) bool { return alikeValues(reflect.ValueOf(a), reflect.ValueOf(b)) }

func alikeValues(a, b reflect.Value) bool {
	switch a.Kind() {
	case reflect.Struct:
		for i := range a.NumField() {
			if !alikeValues(a.Field(i), b.Field(i)) {
				return false
			}
		}
		return true
	case reflect.Slice:
		if a.Len() != b.Len() {
			return false
		}
		for i := range a.Len() {
			if !alikeValues(a.Index(i), b.Index(i)) {
				return false
			}
		}
		return true
	}
	return a.Equal(b)
}

// node is one of a formula's, of the sort Formula, Term or Regex.
type node struct {
	reflect.Value
	depth int
}

func (n node) sort() string { return n.Type().Name() }

func (n node) kind() int { return int(n.FieldByName("Kind").Int()) }

func (n node) size(field string) int { return n.FieldByName(field).Len() }

func (n node) vars() []string { return n.FieldByName("Vars").Interface().([]string) }

// flat is the nodes in the order of the text.
func flat(v reflect.Value, depth int) []node {
	l := []node{{v, depth}}
	for _, name := range []string{"Terms", "Regex", "Test", "Subs"} {
		field := v.FieldByName(name)
		if !field.IsValid() {
			continue
		}
		for i := range field.Len() {
			l = append(l, flat(field.Index(i), depth+1)...)
		}
	}
	return l
}

func flatten(f formula) []node { return flat(reflect.ValueOf(f), 1) }

// use is how many there are of a list that a kind uses; of other fields it says nothing.
type use struct{ least, most int }

const unbound = 1 << 30

// formsOf is the chapter's table.
func formsOf(sort string) map[int]map[string]use {
	one, both, used := use{1, 1}, use{2, 2}, use{}
	switch sort {
	case "Term":
		return map[int]map[string]use{1: {"Name": used}, 2: {"Value": used}, 3: {"Subs": both}, 4: {"Subs": both}, 5: {"Subs": both}}
	case "Regex":
		return map[int]map[string]use{1: {}, 2: {"Test": one}, 3: {"Subs": both}, 4: {"Subs": both}, 5: {"Subs": one}}
	}
	m := map[int]map[string]use{
		api.True: {}, api.False: {}, api.Pred: {"Name": used, "Terms": {0, 6}}, api.Not: {"Subs": one}, api.Exists: {"Vars": {1, unbound}, "Subs": one},
		api.Agg: {"Name": used, "Op": used, "Vars": {1, unbound}, "Subs": one}, api.Join: {"Subs": {1, unbound}},
	}
	for _, k := range []int{api.Equal, api.Less, api.AtMost} {
		m[k] = map[string]use{"Terms": both}
	}
	for _, k := range []int{api.And, api.Or} {
		m[k] = map[string]use{"Subs": both}
	}
	for _, k := range []int{api.Prev, api.Next, api.Once, api.Soon} {
		m[k] = map[string]use{"I": used, "Subs": one}
	}
	for _, k := range []int{api.Since, api.Until} {
		m[k] = map[string]use{"I": used, "Subs": both}
	}
	for _, k := range []int{api.Before, api.After} {
		m[k] = map[string]use{"I": used, "Regex": one}
	}
	for _, k := range []int{api.Let, api.LetPast} {
		m[k] = map[string]use{"Name": used, "Vars": {0, 6}, "Subs": both}
	}
	return m
}

func nameMayBe(s string) bool {
	if s == "" || len(s) > 16 || strings.Trim(s, "abcdefghijklmnopqrstuvwxyz0123456789_") != "" || strings.ContainsAny(s[:1], "0123456789_") {
		return false
	}
	return !slices.Contains(reserved(), s)
}

func intervalMayBe(i api.Interval) bool {
	ends := i.Lo >= 0 && i.Lo <= 1<<40
	if i.Open {
		return ends && i.Hi == 0
	}
	return ends && i.Lo <= i.Hi && i.Hi <= 1<<40
}

func fieldMayBe(name string, field reflect.Value, u use, used bool) bool {
	if field.Kind() == reflect.Slice {
		if !used {
			return field.Len() == 0
		}
		names, ok := field.Interface().([]string)
		return field.Len() >= u.least && field.Len() <= u.most && (!ok || !slices.ContainsFunc(names, func(s string) bool { return !nameMayBe(s) }))
	}
	if !used {
		return field.IsZero()
	}
	switch name {
	case "Name":
		return nameMayBe(field.String())
	case "Op":
		return field.Int() >= 1 && field.Int() <= 6
	case "I":
		return intervalMayBe(field.Interface().(api.Interval))
	}
	return true
}

// fault is the promise's list for one node that i others stand ahead of.
func fault(n node, i int) api.Errno {
	if n.depth > 24 {
		return api.ErrDeep
	}
	if i >= 256 {
		return api.ErrMany
	}
	form, ok := formsOf(n.sort())[n.kind()]
	if !ok {
		return api.ErrKind
	}
	if n.sort() == "Formula" {
		switch k := n.kind(); {
		case k == api.Pred && n.size("Terms") > 6, (k == api.Let || k == api.LetPast) && n.size("Vars") > 6, (k == api.Exists || k == api.Agg) && n.size("Vars") > 8:
			return api.ErrMany
		}
	}
	for i := range n.NumField() {
		name := n.Type().Field(i).Name
		u, used := form[name]
		if name != "Kind" && !fieldMayBe(name, n.Field(i), u, used) {
			return api.ErrArg
		}
	}
	return lateFault(n)
}

func lateFault(n node) api.Errno {
	if n.sort() == "Term" && n.kind() == api.Const {
		return value.Check(n.FieldByName("Value").Interface().(api.Value))
	}
	if n.sort() != "Formula" {
		return api.OK
	}
	seen := map[string]int{}
	for i, s := range n.vars() {
		seen[s]++
		if seen[s] > 1 || n.kind() == api.Agg && i > 0 && s == n.FieldByName("Name").String() {
			return api.ErrVars
		}
	}
	return api.OK
}

// meantCheck is P6.2, word by word.
func meantCheck(f formula) api.Errno {
	l := flatten(f)
	for i, n := range l {
		if e := fault(n, i); e != api.OK {
			return e
		}
	}
	for _, n := range l {
		if g, ok := n.Interface().(formula); ok && len(meantFree(g)) > 8 {
			return api.ErrVars
		}
	}
	return api.OK
}

// meantParts is P6.4's.
func meantParts(f formula) []formula {
	if f.Kind != api.Before && f.Kind != api.After {
		return f.Subs
	}
	var l []formula
	behind := 0
	for _, n := range flatten(f)[1:] {
		if behind > 0 && n.depth > behind {
			continue
		}
		behind = 0
		if r, ok := n.Interface().(api.Regex); ok && r.Kind == api.Test {
			l = append(l, r.Test[0])
			behind = n.depth
		}
	}
	return l
}

// meantFree is that of DOC.md, 'Words'.
func meantFree(f formula) map[string]int {
	free := map[string]int{}
	from := meantParts(f)
	switch f.Kind {
	case api.Agg:
		free[f.Name] = 1
		for _, s := range f.Vars[1:] {
			free[s] = 1
		}
		return free
	case api.Let, api.LetPast:
		from = from[1:]
	}
	for _, s := range f.Terms {
		for _, n := range flat(reflect.ValueOf(s), 1) {
			if n.kind() == api.Var {
				free[n.FieldByName("Name").String()] = 1
			}
		}
	}
	for _, g := range from {
		maps.Copy(free, meantFree(g))
	}
	if f.Kind == api.Exists {
		for _, s := range f.Vars {
			delete(free, s)
		}
	}
	return free
}

// maker makes formulas by a stream, with names of a few or of many letters.
type maker struct {
	*stream
	names int
}

func (m maker) name() string { return letters(m.names)[m.below(m.names)] }

func (m maker) some(n int) []string {
	l := letters(m.names)
	for i := range l {
		j := i + m.below(len(l)-i)
		l[i], l[j] = l[j], l[i]
	}
	return l[:min(n, len(l))]
}

func (m maker) interval() api.Interval {
	lo := pick(m.stream, int64(0), 1, 7, 1<<40)
	if m.below(3) == 0 {
		return from(lo)
	}
	return within(lo, pick(m.stream, lo, max(lo, 9), 1<<40))
}

func (m maker) term(deep int) api.Term {
	if deep > 0 && m.below(3) == 0 {
		return two(api.Add+m.below(3), m.term(deep-1), m.term(deep-1))
	}
	return pick(m.stream, v(m.name()), v(m.name()), v(m.name()), num(int64(m.below(3))), rat(1, 2), str("s"))
}

func (m maker) regex(deep int) api.Regex {
	if deep <= 0 {
		return anyStep()
	}
	switch m.below(5) {
	case 0, 1:
		return test(m.formula(deep - 1))
	case 2:
		return regex(pick(m.stream, api.Alt, api.Seq), m.regex(deep-1), m.regex(deep-1))
	case 3:
		return regex(api.Star, m.regex(deep-1))
	}
	return anyStep()
}

func (m maker) formula(deep int) formula {
	kind := 1 + m.below(6)
	if deep > 0 {
		kind = 1 + m.below(22)
	}
	f := formula{Kind: kind}
	form := formsOf("Formula")[kind]
	for name, u := range form {
		n := u.least
		if u.most > n {
			n += m.below(4)
		}
		switch name {
		case "Name":
			f.Name = m.name()
		case "Op":
			f.Op = 1 + m.below(6)
		case "I":
			f.I = m.interval()
		case "Vars":
			f.Vars = m.some(n)
		case "Terms":
			for range n {
				f.Terms = append(f.Terms, m.term(2))
			}
		case "Subs":
			for range n {
				f.Subs = append(f.Subs, m.formula(deep-1))
			}
		case "Regex":
			f.Regex = append(f.Regex, m.regex(deep))
		}
	}
	return f
}

// spoil changes a field of a node, in place; it may or may not be wrong then.
func (m maker) spoil(f *formula) {
	l := flat(reflect.ValueOf(f).Elem(), 1)
	n := l[m.below(len(l))]
	field := n.Field(m.below(n.NumField()))
	switch field.Interface().(type) {
	case int:
		field.SetInt(int64(m.below(26) - 1))
	case string:
		field.SetString(pick(m.stream, "", "x", "X", "not", "abcdefghijklmnop", "abcdefghijklmnopq"))
	case api.Value:
		field.Set(reflect.ValueOf(pick(m.stream, api.Value{}, api.Value{N: 1}, rat(2, 4).Value, str(strings.Repeat("x", 65)).Value, num(9).Value)))
	case api.Interval:
		field.Set(reflect.ValueOf(pick(m.stream, api.Interval{}, within(5, 3), within(0, 1<<40+1), from(0), api.Interval{Hi: 1, Open: true}, within(-1, 1))))
	case []string:
		field.Set(reflect.ValueOf(pick(m.stream, nil, []string{}, []string{"x"}, []string{"x", "x"}, letters(6), letters(7), letters(8), letters(9), []string{"x", "X"})))
	case []api.Term:
		field.Set(reflect.ValueOf(pick(m.stream, nil, []api.Term{}, []api.Term{v("x")}, []api.Term{v("x"), num(1)}, make([]api.Term, 7))))
	case []api.Regex:
		field.Set(reflect.ValueOf(pick(m.stream, nil, []api.Regex{}, []api.Regex{anyStep()}, []api.Regex{anyStep(), test(yes())})))
	case []formula:
		field.Set(reflect.ValueOf(pick(m.stream, nil, []formula{}, []formula{yes()}, []formula{yes(), p("x")}, []formula{yes(), yes(), yes()})))
	}
}

// asMeant asks all calls, and all paths, against the model.
func asMeant(t *testing.T, f formula) api.Errno {
	t.Helper()
	e := meantCheck(f)
	if e != api.OK {
		refused(t, f, e)
		return e
	}
	nodes, depth := 0, 0
	for _, n := range flatten(f) {
		nodes++
		depth = max(depth, n.depth)
	}
	says(t, f, strings.Join(slices.Sorted(maps.Keys(meantFree(f))), " "), nodes, depth)
	everyPart(t, f, f, nil)
	return e
}

func everyPart(t *testing.T, f, part formula, path []int) {
	t.Helper()
	leads(t, f, part, path...)
	l := meantParts(part)
	for n, g := range l {
		everyPart(t, f, g, append(slices.Clone(path), n))
	}
	leadsNowhere(t, f, append(slices.Clone(path), len(l))...)
	leadsNowhere(t, f, append(slices.Clone(path), -1)...)
}

// TestMeant: P6.2 to P6.6, many formulas, those that may be and those that may not, against the promises' own words.
func TestMeant(t *testing.T) {
	r := stream(20261117)
	met := map[api.Errno]int{}
	for i := range 12000 {
		m := maker{&r, pick(&r, 3, 3, 5, 12)}
		f := m.formula(m.below(5))
		if i%3 > 0 {
			for range 1 + m.below(3) {
				g := ast.Clone(f)
				m.spoil(&g)
				if ast.Same(f, g) != alike(f, g) || ast.Same(g, f) != alike(f, g) {
					t.Fatal(f, g)
				}
				f = g
			}
		}
		met[asMeant(t, f)]++
		if g := ast.Clone(f); !alike(f, g) || !ast.Same(f, g) || !ast.Same(g, f) || ast.Check(g) != ast.Check(f) {
			t.Fatal(f, g)
		}
		if t.Failed() {
			t.FailNow()
		}
	}
	for _, e := range []api.Errno{api.OK, api.ErrArg, api.ErrMany, api.ErrKind, api.ErrVars, api.ErrLong} {
		if met[e] < 20 {
			t.Error(met)
		}
	}
}

// TestLaws: P6.7, P6.8, of all that may be.
func TestLaws(t *testing.T) {
	r := stream(77)
	for range 6000 {
		m := maker{&r, pick(&r, 3, 5)}
		f := m.formula(5)
		if ast.Check(f) != api.OK {
			continue
		}
		sum, found := 0, map[string]int{}
		for n := 0; ; n++ {
			g, e := ast.Part(f, []int{n})
			if e != api.OK {
				break
			}
			if ast.Check(g) != api.OK || ast.Depth(g) >= ast.Depth(f) || ast.Nodes(g) >= ast.Nodes(f) || ast.Nodes(g) == 0 || ast.Depth(g) == 0 {
				t.Fatal(f, g)
			}
			sum += ast.Nodes(g)
			for _, s := range ast.Free(g) {
				found[s] = 1
			}
		}
		if sum >= ast.Nodes(f) {
			t.Fatal(f)
		}
		for _, s := range f.Terms {
			for _, x := range ast.TermVars(s) {
				found[x] = 1
			}
		}
		l := ast.Free(f)
		for i, s := range l {
			if i > 0 && l[i-1] >= s || f.Kind != api.Agg && found[s] == 0 {
				t.Fatal(f, l)
			}
		}
	}
}

// full has something in every field of each sort, and may not be.
func full() formula {
	s := api.Term{Kind: 7, Name: "n", Value: api.Value{Kind: 9, N: 1, D: 2, S: "s"}, Subs: []api.Term{v("x")}}
	r := api.Regex{Kind: 8, Test: []formula{p("x")}, Subs: []api.Regex{anyStep()}}
	return formula{Kind: 99, Name: "f", Op: 3, Vars: []string{"x", "x"}, Terms: []api.Term{s, num(1)}, I: api.Interval{Lo: 3, Hi: 2, Open: true}, Subs: []formula{yes(), {}}, Regex: []api.Regex{r}}
}

// changes are full with one thing changed each, at all depths.
func changes() []formula {
	var l []formula
	change := func(do func(f *formula)) {
		f := full()
		do(&f)
		l = append(l, f)
	}
	change(func(f *formula) { f.Kind = 98 })
	change(func(f *formula) { f.Name = "g" })
	change(func(f *formula) { f.Op = 4 })
	change(func(f *formula) { f.Vars[1] = "y" })
	change(func(f *formula) { f.Vars = f.Vars[:1] })
	change(func(f *formula) { f.Vars = append(f.Vars, "") })
	change(func(f *formula) { f.Vars = nil })
	change(func(f *formula) { f.I.Lo = 2 })
	change(func(f *formula) { f.I.Hi = 0 })
	change(func(f *formula) { f.I.Open = false })
	change(func(f *formula) { f.Terms = f.Terms[:1] })
	change(func(f *formula) { f.Terms[0], f.Terms[1] = f.Terms[1], f.Terms[0] })
	change(func(f *formula) { f.Terms[0].Kind = 1 })
	change(func(f *formula) { f.Terms[0].Name = "" })
	change(func(f *formula) { f.Terms[0].Value.Kind = 1 })
	change(func(f *formula) { f.Terms[0].Value.N = 2 })
	change(func(f *formula) { f.Terms[0].Value.D = 1 })
	change(func(f *formula) { f.Terms[0].Value.S = "" })
	change(func(f *formula) { f.Terms[0].Subs = nil })
	change(func(f *formula) { f.Terms[0].Subs[0].Name = "y" })
	change(func(f *formula) { f.Subs = f.Subs[:1] })
	change(func(f *formula) { f.Subs[0], f.Subs[1] = f.Subs[1], f.Subs[0] })
	change(func(f *formula) { f.Subs[1].Subs = []formula{{}} })
	change(func(f *formula) { f.Regex = nil })
	change(func(f *formula) { f.Regex = append(f.Regex, api.Regex{}) })
	change(func(f *formula) { f.Regex[0].Kind = 0 })
	change(func(f *formula) { f.Regex[0].Test = nil })
	change(func(f *formula) { f.Regex[0].Test[0].Terms[0].Name = "y" })
	change(func(f *formula) { f.Regex[0].Subs = nil })
	change(func(f *formula) { f.Regex[0].Subs[0].Kind = 2 })
	return l
}

// TestSame: P6.6, whatever they are: each field counts, down to the last one; nil lists are empty ones.
func TestSame(t *testing.T) {
	l := append(changes(), full())
	l = append(l, simple()...)
	for i, a := range l {
		for j, b := range l {
			if ast.Same(a, b) != (i == j) {
				t.Error(i, j)
			}
		}
		if c := ast.Clone(a); !alike(a, c) || !ast.Same(a, c) {
			t.Error(i, c)
		}
	}
	bare := formula{Kind: api.Pred, Name: "p"}
	empty := formula{Kind: api.Pred, Name: "p", Vars: []string{}, Terms: []api.Term{}, Subs: []formula{}, Regex: []api.Regex{}}
	inner := before(test(pred("p", api.Term{Kind: api.Var, Name: "x", Subs: []api.Term{}})))
	inner.Regex[0].Subs = []api.Regex{}
	step := before(api.Regex{Kind: api.Any, Test: []formula{}, Subs: []api.Regex{}})
	for _, c := range [][2]formula{{bare, empty}, {inner, before(test(p("x")))}, {step, before(anyStep())}} {
		if !ast.Same(c[0], c[1]) || !ast.Same(c[1], c[0]) {
			t.Error(c)
		}
		for _, g := range c {
			checks(t, g, api.OK)
			if !ast.Same(ast.Clone(g), c[0]) {
				t.Error(g)
			}
		}
		if ast.Nodes(c[0]) != ast.Nodes(c[1]) || ast.Depth(c[0]) != ast.Depth(c[1]) || !slices.Equal(ast.Free(c[0]), ast.Free(c[1])) {
			t.Error(c)
		}
	}
	leadsNowhere(t, empty, 0)
	leads(t, empty, bare)
	if part, e := ast.Part(empty, []int{}); e != api.OK || !alike(part, bare) {
		t.Error(part, e)
	}
}

// shared tells whether two answers or arguments have memory in common, spare room too, and be it of a text.
func shared(a, b any) bool {
	mine := map[uintptr]int{}
	for _, at := range cells(reflect.ValueOf(a)) {
		mine[at] = 1
	}
	for _, at := range cells(reflect.ValueOf(b)) {
		if mine[at] > 0 {
			return true
		}
	}
	return false
}

// cells are the places of all things in lists, and of all bytes of texts.
func cells(v reflect.Value) []uintptr {
	var l []uintptr
	switch v.Kind() {
	case reflect.Struct:
		for i := range v.NumField() {
			l = append(l, cells(v.Field(i))...)
		}
	case reflect.Slice:
		whole := v.Slice3(0, v.Cap(), v.Cap())
		for i := range whole.Len() {
			l = append(l, whole.Index(i).Addr().Pointer())
			l = append(l, cells(whole.Index(i))...)
		}
	case reflect.String:
		for i := range v.Len() {
			l = append(l, uintptr(unsafe.Pointer(unsafe.StringData(v.String())))+uintptr(i))
		}
	}
	return l
}

// roomy is the formula with something in the spare room behind each of its lists.
func roomy(f formula) formula {
	f.Vars = append(append(make([]string, 0, len(f.Vars)+3), f.Vars...), "spare", "room")[:len(f.Vars)]
	f.Terms = roomyTerms(f.Terms)
	f.Subs = roomyFormulas(f.Subs)
	f.Regex = roomyRegexes(f.Regex)
	return f
}

func roomyFormulas(l []formula) []formula {
	all := make([]formula, 0, len(l)+2)
	for _, f := range l {
		all = append(all, roomy(f))
	}
	return append(all, p("spare"), yes())[:len(l)]
}

func roomyTerms(l []api.Term) []api.Term {
	all := make([]api.Term, 0, len(l)+2)
	for _, s := range l {
		s.Subs = roomyTerms(s.Subs)
		all = append(all, s)
	}
	return append(all, v("spare"), num(7))[:len(l)]
}

func roomyRegexes(l []api.Regex) []api.Regex {
	all := make([]api.Regex, 0, len(l)+2)
	for _, r := range l {
		r.Test, r.Subs = roomyFormulas(r.Test), roomyRegexes(r.Subs)
		all = append(all, r)
	}
	return append(all, anyStep(), test(p("spare")))[:len(l)]
}

// opened is the formula with what stands behind its lists.
func opened(f formula) formula {
	f.Vars, f.Terms, f.Subs, f.Regex = f.Vars[:cap(f.Vars)], f.Terms[:cap(f.Terms)], slices.Clone(f.Subs[:cap(f.Subs)]), f.Regex[:cap(f.Regex)]
	for i := range f.Subs {
		f.Subs[i] = opened(f.Subs[i])
	}
	return f
}

// rich is a formula that may be and has all sorts of lists.
func rich() formula {
	r := regex(api.Seq, test(exists(p("x", "y"), "y")), regex(api.Star, test(before(test(cmpOf(api.Less, two(api.Add, v("x"), num(1)), str("s")))))))
	return of(api.Join, let(api.Let, "r", agg("n", api.Cnt, p("x", "z"), "x", "z"), pred("r", v("w"), str("text")), "n", "z"), matched(api.After, within(1, 2), r), not(p("x")))
}

// TestMemory: R4, what is handed in stays as it is, with its spare room; what is answered is new.
func TestMemory(t *testing.T) {
	for i, f := range append([]formula{roomy(rich()), roomy(full()), roomy(before(test(p("x", "y"))))}, changes()...) {
		same := ast.Clone(f)
		spare := ast.Clone(opened(f))
		path := append(make([]int, 0, 4), 1, 0)
		var answers []any
		for range 2 {
			part, _ := ast.Part(f, path)
			sub, _ := ast.Part(f, path[:1])
			whole, _ := ast.Part(f, nil)
			answers = append(answers, ast.Clone(f), ast.Free(f), part, sub, whole)
			for _, s := range f.Terms {
				answers = append(answers, ast.TermVars(s))
			}
			ast.Check(f)
			ast.Nodes(f)
			ast.Depth(f)
			ast.Same(f, f)
		}
		if !alike(f, same) || !alike(opened(f), spare) || !slices.Equal(path[:4], []int{1, 0, 0, 0}) {
			t.Error(i, "changed")
		}
		for j, a := range answers {
			if shared(a, f) {
				t.Error(i, j, "shares with the argument")
			}
			for k, b := range answers[:j] {
				if shared(a, b) {
					t.Error(i, j, k, "share with each other")
				}
			}
			if l := cells(reflect.ValueOf(a)); len(slices.Compact(slices.Sorted(slices.Values(l)))) != len(l) {
				t.Error(i, j, "shares within itself")
			}
		}
	}
}

// TestClone: P6.6, R5, a clone of which something is changed leaves the other as it was.
func TestClone(t *testing.T) {
	f := rich()
	same := rich()
	g := ast.Clone(f)
	if !alike(f, g) {
		t.Fatal(g)
	}
	g.Subs[0].Vars[0] = "changed"
	g.Subs[0].Subs[0].Subs[0].Terms[0].Name = "changed"
	g.Subs[0].Subs[1].Terms[1].Value.S = "changed"
	g.Subs[1].Regex[0].Kind = api.Alt
	g.Subs[1].Regex[0].Subs[0].Test[0].Vars[0] = "changed"
	g.Subs[1].Regex[0].Subs[1].Subs[0].Test[0].Regex[0].Test[0].Terms[0].Subs[0].Name = "changed"
	g.Subs[2] = yes()
	g.Subs = append(g.Subs, yes())
	if !alike(f, same) || ast.Same(f, g) {
		t.Error(f)
	}
	h := ast.Clone(f)
	f.Subs[1].Regex[0].Subs[0].Test[0].Kind = 0
	f.Subs[0].Subs[0].Subs[0].Terms[1].Name = ""
	if !alike(h, same) {
		t.Error(h)
	}
	checks(t, h, api.OK)
	part, e := ast.Part(h, []int{0, 0})
	if e != api.OK {
		t.Fatal(e)
	}
	part.Subs[0].Terms[0].Name = "changed"
	free := ast.Free(h)
	free[0] = "changed"
	if !alike(h, same) || !slices.Equal(ast.Free(h), []string{"w", "x"}) {
		t.Error(h)
	}
}

// TestRefused: P6.3 to P6.6, formulas that may not be, handed to all calls.
func TestRefused(t *testing.T) {
	for i, f := range append(changes(), full()) {
		refused(t, f, api.ErrKind)
		if c := ast.Clone(f); !ast.Same(c, f) || ast.Check(c) != ast.Check(f) {
			t.Error(i)
		}
	}
	for _, f := range []formula{of(api.And, p("x")), agg("x", api.Sum, p("x")), let(api.Let, "r", p("x"), yes(), "x", "x"), {Kind: api.Let, Name: "r"}, {Kind: api.Exists}, {Kind: api.Agg}, {Kind: api.Before}, few(9), {Kind: api.Before, I: from(0), Regex: []api.Regex{{}}}} {
		e := ast.Check(f)
		if e == api.OK {
			t.Error(f)
		}
		refused(t, f, e)
		if c := ast.Clone(f); !alike(c, f) || !ast.Same(f, c) || ast.Same(c, yes()) {
			t.Error(f)
		}
	}
}

// TestGreat: R1, R6, formulas that nest 2^16 times, and lists of 2^16, with all calls.
func TestGreat(t *testing.T) {
	const many = 1 << 16
	deep, s, r := yes(), v("x"), anyStep()
	for i := range many {
		deep = not(deep)
		s = api.Term{Kind: api.Var, Name: letters(26)[i%26], Subs: []api.Term{s}}
		r = regex(api.Star, r)
	}
	tested := yes()
	for range many / 2 {
		tested = before(test(tested))
	}
	wide := ofFormulas(many)
	for i, f := range []formula{deep, pred("p", s), before(r), tested, wide, {Kind: api.Pred, Name: "p", Terms: make([]api.Term, many)}, before(api.Regex{Kind: api.Alt, Subs: make([]api.Regex, many)})} {
		refused(t, f, []api.Errno{api.ErrDeep, api.ErrArg, api.ErrDeep, api.ErrDeep, api.ErrMany, api.ErrMany, api.ErrArg}[i])
		c := ast.Clone(f)
		if !ast.Same(c, f) || !ast.Same(f, c) || ast.Same(f, yes()) {
			t.Error(i)
		}
	}
	if l := ast.TermVars(s); !slices.Equal(l, letters(26)) {
		t.Error(len(l))
	}
	broad := api.Term{Kind: api.Const}
	for i := range many {
		broad.Subs = append(broad.Subs, v(strings.Repeat("x", i%200)))
	}
	if l := ast.TermVars(broad); len(l) != 200 || l[0] != "" || len(l[199]) != 199 {
		t.Error(len(l))
	}
	end := &deep
	for len(end.Subs) > 0 {
		end = &end.Subs[0]
	}
	other := ast.Clone(deep)
	end.Kind = api.False
	if ast.Same(deep, other) || ast.Same(other, deep) {
		t.Error("the last one counts")
	}
}
