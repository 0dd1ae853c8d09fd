package engine

import (
	"slices"

	"custos/api"
	"custos/ast"
	"custos/future"
	"custos/match"
	"custos/past"
	"custos/static"
	"custos/table"
)

// builder makes the parts of an accepted formula, in the order of the text.
type builder struct {
	kinds []int // what is taken by each Agg that is to come
	tales []tale
}

// scope is a predicate that a Let or LetPast tells, with those that it may hide.
type scope struct {
	name    string
	columns []int // for each argument the column where it stands
	tale    int   // -1, as long as nobody asks for it
	around  *scope
}

func begin(f api.Formula, kinds []int) course {
	b := builder{kinds: kinds}
	whole := b.part(nil, f)
	return course{whole: whole, tales: b.tales}
}

func (b *builder) part(in *scope, f api.Formula) part {
	switch f.Kind {
	case api.True, api.False, api.Equal, api.Less, api.AtMost:
		return alwaysOf(f)
	case api.Pred:
		return b.pred(in, f)
	case api.And:
		return b.and(in, f.Subs[0], f.Subs[1])
	case api.Agg:
		kind := b.kinds[0]
		b.kinds = b.kinds[1:]
		return &grouped{b.basis(in, f.Subs...), f.Name, f.Op, f.Vars, kind}
	case api.Let, api.LetPast:
		return b.let(in, f)
	case api.Prev, api.Once, api.Since, api.Before:
		return b.past(in, f)
	case api.Next, api.Soon, api.Until, api.After:
		return b.future(in, f)
	case api.Join:
		return b.join(in, f)
	}
	within := b.basis(in, f.Subs...)
	switch f.Kind {
	case api.Not:
		return &negated{within}
	case api.Or:
		return &either{within}
	}
	return &some{within, f.Vars}
}

func (b *builder) basis(in *scope, l ...api.Formula) basis {
	var within basis
	for _, f := range l {
		within.parts = append(within.parts, b.part(in, f))
	}
	return within
}

func alwaysOf(f api.Formula) part {
	switch f.Kind {
	case api.True:
		return &always{table: table.True()}
	case api.False:
		return &always{}
	}
	a := &always{table: table.True()}
	for k, t := range f.Terms {
		if t.Kind == api.Var {
			a.table, a.e = termOf(f.Terms[1-k], nil).added(a.table, t.Name)
			return a
		}
	}
	a.table, a.e = comparisonOf(f, nil).kept(a.table)
	return a
}

func (b *builder) pred(in *scope, f api.Formula) part {
	for in != nil && in.name != f.Name {
		in = in.around
	}
	if in == nil {
		return &events{name: f.Name, form: formOf(f)}
	}
	if in.tale < 0 {
		in.tale = len(b.tales)
		b.tales = append(b.tales, tale{})
	}
	return &retold{tale: in.tale, columns: in.columns, form: formOf(f)}
}

// let is what its second part is. The first one is made only if it is asked for: else nothing that is in it is asked.
func (b *builder) let(in *scope, f api.Formula) part {
	vars := ast.Free(f.Subs[0])
	own := &scope{f.Name, nil, -1, in}
	for _, x := range f.Vars {
		own.columns = append(own.columns, slices.Index(vars, x))
	}
	kinds := b.kinds
	b.kinds = kinds[aggsIn(f.Subs[0]):]
	whole := b.part(own, f.Subs[1])
	rest := b.kinds
	if own.tale >= 0 {
		if f.Kind == api.LetPast {
			in = own
		}
		b.kinds = kinds
		told := b.part(in, f.Subs[0])
		b.tales[own.tale] = tale{past: f.Kind == api.LetPast, part: told, none: nothing(f.Subs[0])[0]}
	}
	b.kinds = rest
	return whole
}

func aggsIn(l ...api.Formula) int {
	n := 0
	for _, f := range l {
		if f.Kind == api.Agg {
			n++
		}
		for _, r := range f.Regex {
			n += aggsIn(match.Tests(r)...)
		}
		n += aggsIn(f.Subs...)
	}
	return n
}

func (b *builder) and(in *scope, g, h api.Formula) part {
	vars := ast.Free(g)
	switch static.Case(g, h) {
	case 1:
		return &both{b.basis(in, g, h)}
	case 2:
		return &without{b.basis(in, g, h.Subs[0])}
	case 3:
		return &compared{b.basis(in, g), comparisonOf(h, vars)}
	}
	x, t := h.Terms[0], h.Terms[1]
	if x.Kind != api.Var || slices.Contains(vars, x.Name) {
		x, t = t, x
	}
	return &assigned{b.basis(in, g), x.Name, termOf(t, vars)}
}

func (b *builder) join(in *scope, f api.Formula) part {
	first := 0
	l := slices.Clone(f.Subs)
	for k, g := range l {
		if g.Kind == api.Not {
			l[k] = g.Subs[0]
		} else {
			first++
		}
	}
	return &joined{b.basis(in, l...), first}
}

// held are the two parts of a Since or Until, and whether the first one is a Not, in whose place stands what that is of.
func held(f api.Formula) (l []api.Formula, not bool) {
	l = slices.Clone(f.Subs)
	if l[0].Kind == api.Not {
		l[0] = l[0].Subs[0]
		return l, true
	}
	return l, false
}

// past and future take no error from the operators: of an accepted formula there is none.
func (b *builder) past(in *scope, f api.Formula) part {
	switch f.Kind {
	case api.Prev:
		op, _ := past.Prev(f.I, ast.Free(f))
		return &prev{b.basis(in, f.Subs...), op, nothing(f)}
	case api.Once:
		op, _ := past.Once(f.I, ast.Free(f))
		return &back{b.basis(in, f.Subs...), op}
	case api.Since:
		l, not := held(f)
		op, _ := past.Since(f.I, not, ast.Free(l[0]), ast.Free(l[1]))
		return &back{b.basis(in, l...), op}
	}
	op, _ := match.Before(f.I, f.Regex[0])
	return &before{b.basis(in, match.Tests(f.Regex[0])...), op}
}

func (b *builder) future(in *scope, f api.Formula) part {
	switch f.Kind {
	case api.Next:
		op, _ := future.Next(f.I, ast.Free(f))
		return &next{b.basis(in, f.Subs...), op, f.I.Hi, nothing(f)}
	case api.Soon:
		op, _ := future.Soon(f.I, ast.Free(f))
		return &until{ahead: ahead{b.basis(in, f.Subs...), f.I.Hi}, op: op, none: nothing(f)[0]}
	case api.Until:
		l, not := held(f)
		op, _ := future.Until(f.I, not, ast.Free(l[0]), ast.Free(l[1]))
		return &until{ahead: ahead{b.basis(in, l...), f.I.Hi}, op: op, none: nothing(l[1])[0]}
	}
	tests := match.Tests(f.Regex[0])
	op, _ := match.After(f.I, f.Regex[0])
	return &after{ahead{b.basis(in, tests...), f.I.Hi}, op, nothing(tests...)}
}

// nothing is the tables of some formulas where nothing is told of them.
func nothing(l ...api.Formula) []api.Table {
	var all []api.Table
	for _, f := range l {
		t, _ := table.Empty(ast.Free(f))
		all = append(all, t)
	}
	return all
}
