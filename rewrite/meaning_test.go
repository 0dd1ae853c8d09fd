package rewrite_test

import (
	"slices"
	"strings"
	"testing"

	"custos/aggreg"
	"custos/api"
	"custos/ast"
	"custos/static"
	"custos/table"
	"custos/trace"
	"custos/typing"
	"custos/value"
)

// cell is what a formula means at a point, by the words of DOC.md; column is that of all points of a log.
type cell struct {
	over  bool
	table api.Table
}

type column []cell

// told is a predicate that a Let or LetPast tells, with those that it may hide.
type told struct {
	name   string
	vars   []string
	cells  column
	around *told
}

// world is a log, and the kind of what each Agg of a formula takes.
type world struct {
	log   []api.Point
	kinds map[*api.Formula]int
}

// meaning is the table of a formula that has kinds, at each point whose answer is due.
func meaning(sig []api.Decl, f api.Formula, log []api.Point) column {
	f = ast.Clone(f)
	found, _ := typing.Infer(sig, f)
	w := world{log, map[*api.Formula]int{}}
	for i, agg := range aggsIn(&f) {
		w.kinds[agg] = found.Aggs[i]
	}
	reach, _ := static.Reach(f)
	c := w.of(&f, nil)
	n := 0
	for n < len(log) && log[len(log)-1].Time > log[n].Time+reach {
		n++
	}
	return c[:n]
}

// aggsIn are a formula's Aggs, in the order of the text.
func aggsIn(f *api.Formula) []*api.Formula {
	var l []*api.Formula
	if f.Kind == api.Agg {
		l = append(l, f)
	}
	for _, g := range testsOf(f.Regex) {
		l = append(l, aggsIn(g)...)
	}
	for i := range f.Subs {
		l = append(l, aggsIn(&f.Subs[i])...)
	}
	return l
}

func testsOf(l []api.Regex) []*api.Formula {
	var all []*api.Formula
	for i := range l {
		for k := range l[i].Test {
			all = append(all, &l[i].Test[k])
		}
		all = append(all, testsOf(l[i].Subs)...)
	}
	return all
}

// must is of tables that fit: where they do not, the model is wrong.
func must(t api.Table, e api.Errno) api.Table {
	if e != api.OK {
		panic(e)
	}
	return t
}

func empty(vars []string) api.Table { return must(table.Empty(vars)) }

func closed(yes bool) api.Table {
	if yes {
		return table.True()
	}
	return empty(nil)
}

// over is whether one of the first n points is, of one of these.
func over(n int, l ...column) bool {
	return slices.ContainsFunc(l, func(c column) bool { return slices.ContainsFunc(c[:n], func(x cell) bool { return x.over }) })
}

func (w *world) isWithin(i api.Interval, from, to int) bool {
	d := w.log[to].Time - w.log[from].Time
	return d >= i.Lo && (i.Open || d <= i.Hi)
}

// upTo is how many points there are whose time is at most that of a point, and so much more.
func (w *world) upTo(i int, more int64) int {
	n := 0
	for n < len(w.log) && w.log[n].Time <= w.log[i].Time+more {
		n++
	}
	return n
}

// of is a part's column. At points that are not due it is anything: no answer that is due asks for these.
func (w *world) of(f *api.Formula, preds *told) column {
	var parts []column
	switch f.Kind {
	case api.Pred:
		return w.pred(f, preds)
	case api.Let, api.LetPast:
		return w.let(f, preds)
	case api.Before, api.After:
		return w.pattern(f, preds)
	case api.And:
		return w.and(f, preds)
	}
	for i := range f.Subs {
		parts = append(parts, w.of(w.underNot(f, i), preds))
	}
	c := make(column, len(w.log))
	for i := range c {
		c[i] = w.at(f, i, parts)
	}
	return c
}

// underNot is what a Not is of, where DOC.md asks for that in its place.
func (w *world) underNot(f *api.Formula, i int) *api.Formula {
	g := &f.Subs[i]
	if g.Kind == api.Not && (f.Kind == api.Join || (f.Kind == api.Since || f.Kind == api.Until) && i == 0) {
		return &g.Subs[0]
	}
	return g
}

func (w *world) at(f *api.Formula, i int, parts []column) cell {
	switch f.Kind {
	case api.True, api.False:
		return cell{false, closed(f.Kind == api.True)}
	case api.Equal, api.Less, api.AtMost:
		return comparison(f)
	case api.Not:
		return cell{parts[0][i].over, closed(len(parts[0][i].table.Rows) == 0)}
	case api.Or:
		return cell{parts[0][i].over || parts[1][i].over, must(table.Union(parts[0][i].table, parts[1][i].table))}
	case api.Exists:
		return cell{parts[0][i].over, must(table.Drop(parts[0][i].table, f.Vars))}
	case api.Prev, api.Next, api.Once, api.Soon:
		return w.atOther(f, i, parts[0])
	case api.Since, api.Until:
		return w.held(f, i, parts[0], parts[1])
	case api.Agg:
		t, e := aggreg.Do(f.Op, parts[0][i].table, f.Vars[0], f.Vars[1:], f.Name, w.kinds[f])
		if e == api.ErrOver || parts[0][i].over {
			return cell{true, empty(ast.Free(*f))}
		}
		return cell{false, must(t, e)}
	case api.Join:
		return join(f, i, parts)
	}
	panic(f.Kind)
}

func join(f *api.Formula, i int, parts []column) cell {
	c := cell{table: table.True()}
	for k, p := range parts {
		if f.Subs[k].Kind != api.Not {
			c.table = must(table.Join(c.table, p[i].table))
		}
		c.over = c.over || p[i].over
	}
	for k, p := range parts {
		if f.Subs[k].Kind == api.Not {
			c.table = must(table.Anti(c.table, p[i].table))
		}
	}
	return c
}

func (w *world) atOther(f *api.Formula, i int, g column) cell {
	c := cell{table: empty(ast.Free(*f))}
	switch f.Kind {
	case api.Prev:
		if i > 0 && w.isWithin(f.I, i-1, i) {
			c.table = g[i-1].table
		}
		c.over = over(i, g)
	case api.Next:
		if i+1 < len(g) && w.isWithin(f.I, i, i+1) {
			c.table = g[i+1].table
		}
		c.over = over(min(i+2, w.upTo(i, f.I.Hi)), g)
	case api.Once:
		for j := range i + 1 {
			if w.isWithin(f.I, j, i) {
				c.table = must(table.Union(c.table, g[j].table))
			}
		}
		c.over = over(i+1, g)
	case api.Soon:
		for j := i; j < len(g); j++ {
			if w.isWithin(f.I, i, j) {
				c.table = must(table.Union(c.table, g[j].table))
			}
		}
		c.over = over(w.upTo(i, f.I.Hi), g)
	}
	return c
}

// held is of Since and Until.
func (w *world) held(f *api.Formula, i int, g, h column) cell {
	c := cell{table: empty(ast.Free(f.Subs[1]))}
	keep := func(rows api.Table, k int) api.Table {
		if f.Subs[0].Kind == api.Not {
			return must(table.Anti(rows, g[k].table))
		}
		return must(table.Join(rows, g[k].table))
	}
	for j := range h {
		if f.Kind == api.Since && (j > i || !w.isWithin(f.I, j, i)) || f.Kind == api.Until && (j < i || !w.isWithin(f.I, i, j)) {
			continue
		}
		from, to := j+1, i
		if f.Kind == api.Until {
			from, to = i, j-1
		}
		rows := h[j].table
		for k := from; k <= to; k++ {
			rows = keep(rows, k)
		}
		c.table = must(table.Union(c.table, rows))
	}
	n := i + 1
	if f.Kind == api.Until {
		n = w.upTo(i, f.I.Hi)
	}
	c.over = over(n, g, h)
	return c
}

// and goes by the first of the four that the second part fits.
func (w *world) and(f *api.Formula, preds *told) column {
	g, h := w.of(&f.Subs[0], preds), &f.Subs[1]
	c := make(column, len(g))
	var other column
	taken := static.Check(*h) == api.OK
	left := !taken && h.Kind == api.Not && static.Check(h.Subs[0]) == api.OK
	if taken {
		other = w.of(h, preds)
	} else if left {
		other = w.of(&h.Subs[0], preds)
	}
	for i := range c {
		switch {
		case taken:
			c[i] = cell{g[i].over || other[i].over, must(table.Join(g[i].table, other[i].table))}
		case left:
			c[i] = cell{g[i].over || other[i].over, must(table.Anti(g[i].table, other[i].table))}
		default:
			c[i] = withComparison(g[i], h)
		}
	}
	return c
}

// withComparison keeps the rows for which a comparison holds, or its Not; or gives a variable that they have not its value.
func withComparison(g cell, h *api.Formula) cell {
	not := h.Kind == api.Not
	if not {
		h = &h.Subs[0]
	}
	c := cell{over: g.over}
	vars := slices.Clone(g.table.Vars)
	n := slices.IndexFunc(h.Terms, func(t api.Term) bool { return t.Kind == api.Var && !slices.Contains(vars, t.Name) })
	if n >= 0 {
		vars = append(vars, h.Terms[n].Name)
	}
	var rows [][]api.Value
	for _, row := range g.table.Rows {
		of := map[string]api.Value{}
		for k, x := range g.table.Vars {
			of[x] = row[k]
		}
		if n >= 0 {
			v, isOver := valueOf(h.Terms[1-n], of)
			c.over = c.over || isOver
			rows = append(rows, append(slices.Clone(row), v))
			continue
		}
		yes, isOver := holds(h, of)
		c.over = c.over || isOver
		if yes != not {
			rows = append(rows, row)
		}
	}
	if c.over {
		rows = nil
	}
	c.table = must(table.Of(vars, rows))
	return c
}

// comparison is one by itself: without variables, or with one that gets its value.
func comparison(f *api.Formula) cell {
	for n, t := range f.Terms {
		if t.Kind == api.Var {
			v, isOver := valueOf(f.Terms[1-n], nil)
			if isOver {
				return cell{true, empty([]string{t.Name})}
			}
			return cell{false, must(table.Of([]string{t.Name}, [][]api.Value{{v}}))}
		}
	}
	yes, isOver := holds(f, nil)
	return cell{isOver, closed(yes)}
}

func holds(f *api.Formula, of map[string]api.Value) (yes, isOver bool) {
	a, e := valueOf(f.Terms[0], of)
	b, d := valueOf(f.Terms[1], of)
	if e || d {
		return false, true
	}
	switch f.Kind {
	case api.Equal:
		return value.Same(a, b), false
	case api.Less:
		return value.Compare(a, b) < 0, false
	}
	return value.Compare(a, b) <= 0, false
}

func valueOf(t api.Term, of map[string]api.Value) (v api.Value, isOver bool) {
	switch t.Kind {
	case api.Var:
		return of[t.Name], false
	case api.Const:
		return t.Value, false
	}
	a, e := valueOf(t.Subs[0], of)
	b, d := valueOf(t.Subs[1], of)
	if e || d {
		return api.Value{}, true
	}
	does := map[int]func(a, b api.Value) (api.Value, api.Errno){api.Add: value.Add, api.Sub: value.Sub, api.Mul: value.Mul}[t.Kind]
	v, errno := does(a, b)
	if errno != api.OK && errno != api.ErrOver {
		panic(errno)
	}
	return v, errno == api.ErrOver
}

// pred is of what happens, or of what a Let or LetPast tells.
func (w *world) pred(f *api.Formula, preds *told) column {
	for preds != nil && preds.name != f.Name {
		preds = preds.around
	}
	c := make(column, len(w.log))
	for i := range c {
		var events [][]api.Value
		if preds == nil {
			for _, e := range w.log[i].Events {
				if e.Name == f.Name {
					events = append(events, e.Args)
				}
			}
		} else {
			c[i].over = preds.cells[i].over
			t := preds.cells[i].table
			for _, row := range t.Rows {
				var args []api.Value
				for _, x := range preds.vars {
					args = append(args, row[slices.Index(t.Vars, x)])
				}
				events = append(events, args)
			}
		}
		c[i].table = fitting(f, events)
	}
	return c
}

func fitting(f *api.Formula, events [][]api.Value) api.Table {
	vars := ast.Free(*f)
	var rows [][]api.Value
next:
	for _, args := range events {
		of := map[string]api.Value{}
		for k, t := range f.Terms {
			if t.Kind == api.Const && !value.Same(t.Value, args[k]) {
				continue next
			}
			if v, ok := of[t.Name]; t.Kind == api.Var && ok && !value.Same(v, args[k]) {
				continue next
			}
			of[t.Name] = args[k]
		}
		var row []api.Value
		for _, x := range vars {
			row = append(row, of[x])
		}
		rows = append(rows, row)
	}
	return must(table.Of(vars, rows))
}

// let goes through a LetPast's first part once for each point: what it tells there hangs on the points below alone.
func (w *world) let(f *api.Formula, preds *told) column {
	p := &told{f.Name, f.Vars, make(column, len(w.log)), preds}
	if f.Kind == api.Let {
		p.cells = w.of(&f.Subs[0], preds)
		return w.of(&f.Subs[1], p)
	}
	for i := range p.cells {
		p.cells[i].table = empty(f.Vars)
	}
	for i := range p.cells {
		p.cells[i] = w.of(&f.Subs[0], p)[i]
	}
	return w.of(&f.Subs[1], p)
}

// pattern is of Before and After.
func (w *world) pattern(f *api.Formula, preds *told) column {
	var parts []column
	for _, g := range testsOf(f.Regex) {
		parts = append(parts, w.of(g, preds))
	}
	left := parts
	m := w.matches(&f.Regex[0], &left)
	c := make(column, len(w.log))
	for i := range c {
		c[i].table = empty(ast.Free(*f))
		for j := range c {
			if f.Kind == api.Before && j <= i && w.isWithin(f.I, j, i) {
				c[i].table = must(table.Union(c[i].table, m[j][i]))
			}
			if f.Kind == api.After && j >= i && w.isWithin(f.I, i, j) {
				c[i].table = must(table.Union(c[i].table, m[i][j]))
			}
		}
		n := i + 1
		if f.Kind == api.After {
			n = w.upTo(i, f.I.Hi)
		}
		c[i].over = over(n, parts...)
	}
	return c
}

// matches are M(r, i, j) of all i and j, from the columns of the tests that are left, whose first ones are r's.
func (w *world) matches(r *api.Regex, left *[]column) [][]api.Table {
	var subs [][][]api.Table
	for i := range r.Subs {
		subs = append(subs, w.matches(&r.Subs[i], left))
	}
	var test column
	if r.Kind == api.Test {
		test, *left = (*left)[0], (*left)[1:]
	}
	n := len(w.log)
	m := make([][]api.Table, n)
	for i := n - 1; i >= 0; i-- {
		m[i] = make([]api.Table, n)
		for j := i; j < n; j++ {
			switch r.Kind {
			case api.Any:
				m[i][j] = closed(j == i+1)
			case api.Test:
				m[i][j] = test[i].table
				if i != j {
					m[i][j] = empty(test[i].table.Vars)
				}
			case api.Alt:
				m[i][j] = must(table.Union(subs[0][i][j], subs[1][i][j]))
			case api.Seq:
				m[i][j] = inTurn(subs[0], subs[1], i, j)
			case api.Star:
				m[i][j] = closed(i == j)
				for k := i + 1; k <= j; k++ {
					m[i][j] = must(table.Union(m[i][j], must(table.Join(subs[0][i][k], m[k][j]))))
				}
			}
		}
	}
	return m
}

func inTurn(a, b [][]api.Table, i, j int) api.Table {
	t := must(table.Join(a[i][i], b[i][j]))
	for k := i + 1; k <= j; k++ {
		t = must(table.Union(t, must(table.Join(a[i][k], b[k][j]))))
	}
	return t
}

// TestMeaning: what the model tells of formulas whose tables DOC.md and its chapters tell.
func TestMeaning(t *testing.T) {
	over := "over"
	for _, x := range []struct {
		f, log string
		wants  []string
	}{
		{"(p x)", "@0 (p 1) (p 2)\n@1\n@1\n@2", []string{"1; 2", "", ""}},
		{"(and (p x) (= y (+ x 1)))", "@0 (p 9223372036854775807)\n@1 (p 4)\n@2", []string{over, "4 5"}},
		{"(agg n cnt x () (p x))", "@0\n@1 (p 7) (p 8)\n@2", []string{"0", "2"}}, {"(agg m max x () (p x))", "@0\n@1 (p 7) (p 8)\n@2", []string{"", "8"}},
		{"(let l (x) (exists (y) (r x y)) (and (p x) (not (l x))))", "@0 (p 1) (p 2) (r 2 5)\n@1", []string{"1"}},
		{"(letpast l (x) (or (p x) (prev [0,*] (l x))) (l x))", "@0 (p 1)\n@3\n@3 (p 2)\n@9", []string{"1", "1", "1; 2"}},
		{"(before [0,9] (seq (test (p x)) (seq any (test (r x y)))))", "@0 (p 1) (p 2)\n@1 (r 2 3) (r 4 4)\n@2", []string{"", "2 3"}},
		{"(after [0,9] (seq (test (p x)) (seq any (test (r x y)))))", "@0 (p 1) (p 2)\n@1 (r 2 3) (r 4 4)\n@20", []string{"2 3", ""}},
		{"(before [0,*] (seq (test (p x)) (star (seq any (test (q))))))", "@0 (p 1)\n@1 (q)\n@2 (q) (p 2)\n@3 (p 3)\n@4", []string{"1", "1", "1; 2", "3"}},
		{"(since [0,*] (not (bi x)) (p x))", "@0 (p 1) (p 2)\n@1 (bi 1)\n@2 (p 1) (bi 1)\n@3", []string{"1; 2", "2", "1; 2"}},
		{"(until [0,3] (bi x) (p x))", "@0 (bi 1)\n@1 (p 1) (p 2)\n@4 (p 3)\n@30", []string{"1", "1; 2", "3"}}, {"(soon [0,3] (p x))", "@0\n@2 (p 5)\n@3\n@4 (p 6)\n@8", []string{"5", "5; 6", "6", "6"}},
		{"(prev [1,2] (p x))", "@0 (p 1)\n@0 (p 2)\n@1\n@9\n@10", []string{"", "", "2", ""}}, {"(next [1,2] (p x))", "@0 (p 1)\n@0 (p 2)\n@1 (p 3)\n@9 (p 4)\n@20", []string{"", "3", "", ""}}, {"(once [1,2] (p x))", "@0 (p 1)\n@1 (p 2)\n@2\n@3\n@9", []string{"", "1", "1; 2", "2"}},
		{"(join (p x) (r x y) (not (bi y)) (not (q)))", "@0 (p 1) (r 1 2) (r 1 3) (r 2 2) (bi 2)\n@1 (p 1) (r 1 1) (q)\n@2", []string{"1 3", ""}},
		{"(once [0,*] (and (p x) (< (+ x 1) 9)))", "@0 (p 1)\n@1 (p 9223372036854775807)\n@2\n@3", []string{"1", over, over}}, {"(and (p x) (not (< (+ x 1) 9)))", "@0 (p 7) (p 8)\n@1 (p 9223372036854775807)\n@2", []string{"8", over}},
	} {
		var log []api.Point
		for line := range strings.SplitSeq(x.log, "\n") {
			p, e := trace.ParsePoint(line)
			if e != api.OK || trace.CheckPoint(signature(), p) != api.OK {
				t.Fatal(line, e)
			}
			log = append(log, p)
		}
		c := meaning(signature(), formula(t, x.f), log)
		var got []string
		for _, cell := range c {
			if cell.over {
				got = append(got, over)
				continue
			}
			var rows []string
			for _, r := range cell.table.Rows {
				var row []string
				for _, v := range r {
					s, _ := value.Print(v)
					row = append(row, s)
				}
				rows = append(rows, strings.Join(row, " "))
			}
			got = append(got, strings.Join(rows, "; "))
		}
		if !slices.Equal(got, x.wants) {
			t.Errorf("%s: %q, want %q", x.f, got, x.wants)
		}
	}
}
