package engine_test

import (
	"slices"
	"testing"

	"custos/aggreg"
	"custos/api"
	"custos/ast"
	"custos/static"
	"custos/table"
	"custos/typing"
	"custos/value"
)

// node is a part of a formula, with what its meaning hangs on beside its own words.
type node struct {
	f     api.Formula
	parts []*node // Subs, or tests; what a Not is of, where DOC.md asks for that in its place
	not   []bool  // of each part, whether it stands under such a Not
	by    int     // of And: 1 to 4, how its second part is taken
	kind  int     // of Agg: that of x
	told  *node   // of a Pred: the Let or LetPast that tells it
}

// around is a Let or LetPast that tells a predicate, with those that it may hide.
type around struct {
	by  *node
	out *around
}

// cell is a table, or over.
type cell struct {
	over  bool
	table api.Table
}

type place struct {
	n *node
	i int
}

// world is a log, and what was reckoned of it. What no answer asks for is never reckoned.
type world struct {
	log    []api.Point
	known  map[place]cell
	begun  map[place]bool
	round  bool // whether a table hung on itself
	points int  // the last point that was looked at
}

// meaning is what the words of DOC.md tell of a formula at each point whose answer is due, up to the first one at which
// it is over; false, if they tell a table by itself.
func meaning(sig []api.Decl, f api.Formula, log []api.Point) ([]cell, bool) {
	found, _ := typing.Infer(sig, f)
	root := nodeOf(f, nil, &found.Aggs)
	reach, _ := static.Reach(f)
	w := world{log: log, known: map[place]cell{}, begun: map[place]bool{}}
	var l []cell
	for i, p := range log {
		if log[len(log)-1].Time <= p.Time+reach {
			break
		}
		c := w.at(root, i)
		if w.round {
			return nil, false
		}
		l = append(l, c)
		if c.over {
			break
		}
	}
	return l, true
}

func nodeOf(f api.Formula, in *around, aggs *[]int) *node {
	n := &node{f: f}
	switch f.Kind {
	case api.Pred:
		for in != nil && in.by.f.Name != f.Name {
			in = in.out
		}
		if in != nil {
			n.told = in.by
		}
	case api.Agg:
		n.kind, *aggs = (*aggs)[0], (*aggs)[1:]
	case api.And:
		n.by = caseOf(f.Subs[0], f.Subs[1])
	}
	subs := f.Subs
	for _, r := range f.Regex {
		subs = testsOf(r)
	}
	for k, g := range subs {
		not := g.Kind == api.Not && (f.Kind == api.Join || (f.Kind == api.Since || f.Kind == api.Until) && k == 0 || n.by == 2 && k == 1)
		if not {
			g = g.Subs[0]
		}
		scope := in
		if f.Kind == api.LetPast || f.Kind == api.Let && k == 1 {
			scope = &around{n, in}
		}
		if n.by >= 3 && k == 1 {
			break
		}
		n.parts = append(n.parts, nodeOf(g, scope, aggs))
		n.not = append(n.not, not)
	}
	return n
}

func testsOf(r api.Regex) []api.Formula {
	l := slices.Clone(r.Test)
	for _, s := range r.Subs {
		l = append(l, testsOf(s)...)
	}
	return l
}

// caseOf goes by what chapter 10 says is accepted.
func caseOf(g, h api.Formula) int {
	within := !slices.ContainsFunc(ast.Free(h), func(x string) bool { return !slices.Contains(ast.Free(g), x) })
	switch {
	case static.Check(h) == api.OK:
		return 1
	case h.Kind == api.Not && within && static.Check(h.Subs[0]) == api.OK:
		return 2
	case within:
		return 3
	}
	return 4
}

// at is what a part is at a point: over, if what it asks is, or if it says so itself.
func (w *world) at(n *node, i int) cell {
	p := place{n, i}
	if c, ok := w.known[p]; ok {
		return c
	}
	if w.begun[p] {
		w.round = true
		return cell{over: true}
	}
	w.begun[p] = true
	c := cell{}
	for _, q := range w.asks(n, i) {
		c.over = w.at(q.n, q.i).over || c.over
	}
	if !c.over {
		c = w.own(n, i)
	}
	w.known[p] = c
	return c
}

// asks is the second column of the table of DOC.md.
func (w *world) asks(n *node, i int) []place {
	first := func(parts []*node, until func(j int) bool) []place {
		var l []place
		for _, g := range parts {
			for j := 0; j < len(w.log) && until(j); j++ {
				l = append(l, place{g, j})
			}
		}
		return l
	}
	soon := func(j int) bool { return w.log[j].Time <= w.log[i].Time+n.f.I.Hi }
	switch n.f.Kind {
	case api.Pred:
		if n.told != nil {
			return []place{{n.told.parts[0], i}}
		}
		return nil
	case api.Prev:
		return first(n.parts, func(j int) bool { return j < i })
	case api.Next:
		return first(n.parts, func(j int) bool { return j <= i+1 && soon(j) })
	case api.Once, api.Since, api.Before:
		return first(n.parts, func(j int) bool { return j <= i })
	case api.Soon, api.Until, api.After:
		return first(n.parts, soon)
	case api.Let, api.LetPast:
		return []place{{n.parts[1], i}}
	}
	var l []place
	for _, g := range n.parts {
		l = append(l, place{g, i})
	}
	return l
}

// own is the third column.
func (w *world) own(n *node, i int) cell {
	part := func(k, j int) api.Table { return w.at(n.parts[k], j).table }
	switch n.f.Kind {
	case api.True, api.False:
		return cell{table: closed(n.f.Kind == api.True)}
	case api.Equal, api.Less, api.AtMost:
		return alone(n.f)
	case api.Pred:
		return cell{table: fitting(n.f, w.happens(n, i))}
	case api.Not:
		return cell{table: closed(len(part(0, i).Rows) == 0)}
	case api.And:
		return w.and(n, i)
	case api.Or:
		return cell{table: must(table.Union(part(0, i), part(1, i)))}
	case api.Exists:
		return cell{table: must(table.Drop(part(0, i), n.f.Vars))}
	case api.Agg:
		t, e := aggreg.Do(n.f.Op, part(0, i), n.f.Vars[0], n.f.Vars[1:], n.f.Name, n.kind)
		if e == api.ErrOver {
			return cell{over: true}
		}
		return cell{table: must(t, e)}
	case api.Let, api.LetPast:
		return cell{table: part(1, i)}
	case api.Join:
		return w.join(n, i)
	}
	return cell{table: w.timely(n, i)}
}

// must is of tables that fit: where they do not, the model is wrong.
func must(t api.Table, e api.Errno) api.Table {
	if e != api.OK {
		panic(e)
	}
	return t
}

func empty(vars []string) api.Table { return must(table.Empty(vars)) }

func closed(yes bool) api.Table {
	if yes {
		return table.True()
	}
	return empty(nil)
}

// happens is the values that a Pred's terms are held against.
func (w *world) happens(n *node, i int) [][]api.Value {
	var l [][]api.Value
	if n.told == nil {
		for _, e := range w.log[i].Events {
			if e.Name == n.f.Name {
				l = append(l, e.Args)
			}
		}
		return l
	}
	t := w.at(n.told.parts[0], i).table
	for _, row := range t.Rows {
		of := valuesOf(t.Vars, row)
		var args []api.Value
		for _, x := range n.told.f.Vars {
			args = append(args, of[x])
		}
		l = append(l, args)
	}
	return l
}

func valuesOf(vars []string, row []api.Value) map[string]api.Value {
	of := map[string]api.Value{}
	for k, x := range vars {
		of[x] = row[k]
	}
	return of
}

func fitting(f api.Formula, l [][]api.Value) api.Table {
	vars := ast.Free(f)
	var rows [][]api.Value
next:
	for _, args := range l {
		of := map[string]api.Value{}
		for k, t := range f.Terms {
			wanted, known := of[t.Name]
			if t.Kind == api.Const {
				wanted, known = t.Value, true
			}
			if known && wanted != args[k] {
				continue next
			}
			of[t.Name] = args[k]
		}
		var row []api.Value
		for _, x := range vars {
			row = append(row, of[x])
		}
		rows = append(rows, row)
	}
	return must(table.Of(vars, rows))
}

func valueOf(t api.Term, of map[string]api.Value) (v api.Value, over bool) {
	switch t.Kind {
	case api.Var:
		return of[t.Name], false
	case api.Const:
		return t.Value, false
	}
	a, e := valueOf(t.Subs[0], of)
	b, d := valueOf(t.Subs[1], of)
	if e || d {
		return api.Value{}, true
	}
	does := map[int]func(a, b api.Value) (api.Value, api.Errno){api.Add: value.Add, api.Sub: value.Sub, api.Mul: value.Mul}[t.Kind]
	v, err := does(a, b)
	if err != api.OK && err != api.ErrOver {
		panic(err)
	}
	return v, err == api.ErrOver
}

func holds(f api.Formula, of map[string]api.Value) (yes, over bool) {
	a, e := valueOf(f.Terms[0], of)
	b, d := valueOf(f.Terms[1], of)
	if e || d {
		return false, true
	}
	switch f.Kind {
	case api.Equal:
		return a == b, false
	case api.Less:
		return value.Compare(a, b) < 0, false
	}
	return value.Compare(a, b) <= 0, false
}

// alone is a comparison without variables, or with one that gets its value.
func alone(f api.Formula) cell {
	for k, t := range f.Terms {
		if t.Kind == api.Var {
			v, over := valueOf(f.Terms[1-k], nil)
			if over {
				return cell{over: true}
			}
			return cell{table: must(table.Of([]string{t.Name}, [][]api.Value{{v}}))}
		}
	}
	yes, over := holds(f, nil)
	return cell{over, closed(yes && !over)}
}

func (w *world) and(n *node, i int) cell {
	g, h := w.at(n.parts[0], i).table, n.f.Subs[1]
	switch n.by {
	case 1:
		return cell{table: must(table.Join(g, w.at(n.parts[1], i).table))}
	case 2:
		return cell{table: must(table.Anti(g, w.at(n.parts[1], i).table))}
	case 3:
		return compared(g, h)
	}
	k := slices.IndexFunc(h.Terms, func(t api.Term) bool { return t.Kind == api.Var && !slices.Contains(g.Vars, t.Name) })
	var rows [][]api.Value
	for _, row := range g.Rows {
		v, over := valueOf(h.Terms[1-k], valuesOf(g.Vars, row))
		if over {
			return cell{over: true}
		}
		rows = append(rows, append(slices.Clone(row), v))
	}
	return cell{table: must(table.Of(append(slices.Clone(g.Vars), h.Terms[k].Name), rows))}
}

func compared(g api.Table, h api.Formula) cell {
	not := h.Kind == api.Not
	if not {
		h = h.Subs[0]
	}
	var rows [][]api.Value
	for _, row := range g.Rows {
		yes, over := holds(h, valuesOf(g.Vars, row))
		if over {
			return cell{over: true}
		}
		if yes != not {
			rows = append(rows, row)
		}
	}
	return cell{table: must(table.Of(g.Vars, rows))}
}

func (w *world) join(n *node, i int) cell {
	t := table.True()
	for k, g := range n.parts {
		if !n.not[k] {
			t = must(table.Join(t, w.at(g, i).table))
		}
	}
	for k, g := range n.parts {
		if n.not[k] {
			t = must(table.Anti(t, w.at(g, i).table))
		}
	}
	return cell{table: t}
}

// isIn is whether a point is as far from another one as an interval says.
func (w *world) isIn(i api.Interval, from, to int) bool {
	d := w.log[to].Time - w.log[from].Time
	return d >= i.Lo && (i.Open || d <= i.Hi)
}

// timely goes by the interval.
func (w *world) timely(n *node, i int) api.Table {
	t := empty(ast.Free(n.f))
	last := n.parts
	part := func(k, j int) api.Table { return w.at(last[k], j).table }
	back := n.f.Kind == api.Prev || n.f.Kind == api.Once || n.f.Kind == api.Since || n.f.Kind == api.Before
	for j := range w.log {
		from, to := i, j
		if back {
			from, to = j, i
		}
		if from > to || !w.isIn(n.f.I, from, to) {
			continue
		}
		var more api.Table
		switch n.f.Kind {
		case api.Prev, api.Next:
			if to-from != 1 {
				continue
			}
			more = part(0, j)
		case api.Once, api.Soon:
			more = part(0, j)
		case api.Since:
			more = w.held(n, part(1, j), j+1, i)
		case api.Until:
			more = w.held(n, part(1, j), i, j-1)
		default:
			parts := n.parts
			more = w.match(n.f.Regex[0], &parts, from, to)
		}
		t = must(table.Union(t, more))
	}
	return t
}

// held is the rows to which, at each point from one to another, one of the first part's fits, or none.
func (w *world) held(n *node, rows api.Table, from, to int) api.Table {
	for k := from; k <= to; k++ {
		g := w.at(n.parts[0], k).table
		if n.not[0] {
			rows = must(table.Anti(rows, g))
		} else {
			rows = must(table.Join(rows, g))
		}
	}
	return rows
}

// match is M(r, i, j); of tests that are left the first ones are r's.
func (w *world) match(r api.Regex, tests *[]*node, i, j int) api.Table {
	all := *tests
	*tests = all[len(testsOf(r)):]
	within := func(k int, i, j int) api.Table {
		own := all
		if k == 1 {
			own = all[len(testsOf(r.Subs[0])):]
		}
		return w.match(r.Subs[k], &own, i, j)
	}
	switch r.Kind {
	case api.Any:
		return closed(j == i+1)
	case api.Test:
		if i != j {
			return empty(ast.Free(r.Test[0]))
		}
		return w.at(all[0], i).table
	case api.Alt:
		return must(table.Union(within(0, i, j), within(1, i, j)))
	case api.Seq:
		t := must(table.Join(within(0, i, i), within(1, i, j)))
		for k := i + 1; k <= j; k++ {
			t = must(table.Union(t, must(table.Join(within(0, i, k), within(1, k, j)))))
		}
		return t
	}
	for k := i + 1; k <= j && i != j; k++ {
		own := all
		if len(within(0, i, k).Rows) > 0 && len(w.match(r, &own, k, j).Rows) > 0 {
			return table.True()
		}
	}
	return closed(i == j)
}

// TestModel: what the model tells of formulas whose tables DOC.md tells.
func TestModel(t *testing.T) {
	for _, x := range []struct{ f, log, wants string }{
		{"(p x)", "@0 (p 1) (p 2)\n@1\n@1\n@2", "1, 2 | - | -"},
		{"(and (p x) (= y (+ x 1)))", "@0 (p 5)\n@1 (p 9223372036854775807)\n@2", "5 6 | over"},
		{"(agg n cnt x () (p x))", "@0\n@1 (p 7) (p 8)\n@2", "0 | 2"},
		{"(agg m max x () (p x))", "@0\n@1 (p 7) (p 8)\n@2", "- | 8"},
		{"(let l (x) (exists (y) (q x y)) (and (p x) (not (l x))))", "@0 (p 1) (p 2) (q 2 \"a\")\n@1", "1"},
		{"(letpast l (x) (or (p x) (prev [0,*] (l x))) (l x))", "@0 (p 1)\n@3\n@3 (p 2)\n@9", "1 | 1 | 1, 2"},
		{"(before [0,9] (seq (test (p x)) (seq any (test (q x y)))))", "@0 (p 1) (p 2)\n@1 (q 2 \"a\") (q 4 \"b\")\n@2", `- | 2 "a"`},
		{"(after [0,9] (seq (test (p x)) (seq any (test (q x y)))))", "@0 (p 1) (p 2)\n@1 (q 2 \"a\") (q 4 \"b\")\n@20", `2 "a" | -`},
		{"(before [0,*] (seq (test (p x)) (star (seq any (test (r))))))", "@0 (p 1)\n@1 (r)\n@2 (r) (p 2)\n@3 (p 3)\n@4", "1 | 1 | 1, 2 | 3"},
		{"(since [0,*] (not (q x \"a\")) (p x))", "@0 (p 1) (p 2)\n@1 (q 1 \"a\")\n@2 (p 1) (q 1 \"a\")\n@3", "1, 2 | 2 | 1, 2"},
		{"(until [0,3] (p x) (exists (y) (q x y)))", "@0 (p 1)\n@1 (q 1 \"\") (q 2 \"\")\n@4 (q 3 \"\")\n@30", "1 | 1, 2 | 3"},
		{"(soon [0,3] (p x))", "@0\n@2 (p 5)\n@3\n@4 (p 6)\n@8", "5 | 5, 6 | 6 | 6"},
		{"(prev [1,2] (p x))", "@0 (p 1)\n@0 (p 2)\n@1\n@9\n@10", "- | - | 2 | -"},
		{"(next [1,2] (p x))", "@0 (p 1)\n@0 (p 2)\n@1 (p 3)\n@9 (p 4)\n@20", "- | 3 | - | -"},
		{"(once [1,2] (p x))", "@0 (p 1)\n@1 (p 2)\n@2\n@3\n@9", "- | 1 | 1, 2 | 2"},
		{"(join (p x) (q x y) (not (= y \"b\")) (not (r)))", "@0 (p 1) (q 1 \"a\") (q 1 \"b\") (q 2 \"a\")\n@1 (p 1) (q 1 \"a\") (r)\n@2", `1 "a" | -`},
		{"(once [0,*] (and (p x) (< (+ x 1) 9)))", "@0 (p 1)\n@1 (p 9223372036854775807)\n@2\n@3", "1 | over"},
	} {
		got, ok := meaning(signature(t), formula(t, x.f), logOf(t, x.log))
		if s := textOfCells(got); !ok || s != x.wants {
			t.Errorf("%s over %s: %q, want %q", x.f, x.log, s, x.wants)
		}
	}
}
