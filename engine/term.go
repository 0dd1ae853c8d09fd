package engine

import (
	"slices"

	"custos/api"
	"custos/ast"
	"custos/table"
	"custos/value"
)

// form is the terms of a Pred, each a variable or a Const, as what an event's values must fit.
type form struct {
	vars    []string
	columns []int // for each variable the first place where it stands
	terms   []api.Term
	same    []int // for each term that is a variable the first place where that one stands
}

func formOf(f api.Formula) form {
	p := form{vars: ast.Free(f), terms: f.Terms, same: make([]int, len(f.Terms))}
	first := func(x string) int {
		return slices.IndexFunc(f.Terms, func(t api.Term) bool { return t.Kind == api.Var && t.Name == x })
	}
	for _, x := range p.vars {
		p.columns = append(p.columns, first(x))
	}
	for k, t := range f.Terms {
		if t.Kind == api.Var {
			p.same[k] = first(t.Name)
		}
	}
	return p
}

// fitting is the table of those rows of values that fit.
func (p form) fitting(l [][]api.Value) (api.Table, api.Errno) {
	var rows [][]api.Value
	for _, args := range l {
		if p.fits(args) {
			rows = append(rows, pick(args, p.columns))
		}
	}
	return table.Of(p.vars, rows)
}

func (p form) fits(args []api.Value) bool {
	for k, t := range p.terms {
		wanted := t.Value
		if t.Kind == api.Var {
			wanted = args[p.same[k]]
		}
		if !value.Same(args[k], wanted) {
			return false
		}
	}
	return true
}

func pick[T any](from []T, columns []int) []T {
	l := make([]T, len(columns))
	for i, c := range columns {
		l[i] = from[c]
	}
	return l
}

// term is one whose variables are columns of rows.
type term struct {
	kind   int
	column int
	value  api.Value
	subs   []term
}

func termOf(t api.Term, vars []string) term {
	c := term{kind: t.Kind, column: slices.Index(vars, t.Name), value: t.Value}
	for _, s := range t.Subs {
		c.subs = append(c.subs, termOf(s, vars))
	}
	return c
}

// of is its value for a row. As all kinds fit, there is an error only where it is over.
func (t term) of(row []api.Value) (api.Value, api.Errno) {
	switch t.kind {
	case api.Var:
		return row[t.column], api.OK
	case api.Const:
		return t.value, api.OK
	}
	a, e := t.subs[0].of(row)
	if e != api.OK {
		return api.Value{}, e
	}
	b, e := t.subs[1].of(row)
	if e != api.OK {
		return api.Value{}, e
	}
	switch t.kind {
	case api.Add:
		return value.Add(a, b)
	case api.Sub:
		return value.Sub(a, b)
	}
	return value.Mul(a, b)
}

// added is a table with its value for each row at a variable more.
func (t term) added(from api.Table, name string) (api.Table, api.Errno) {
	var rows [][]api.Value
	for _, row := range from.Rows {
		v, e := t.of(row)
		if e != api.OK {
			return api.Table{}, e
		}
		rows = append(rows, append(slices.Clone(row), v))
	}
	return table.Of(append(slices.Clone(from.Vars), name), rows)
}

// comparison is Equal, Less or AtMost, or with not the Not of one.
type comparison struct {
	not  bool
	kind int
	a, b term
}

func comparisonOf(f api.Formula, vars []string) comparison {
	if f.Kind == api.Not {
		c := comparisonOf(f.Subs[0], vars)
		c.not = true
		return c
	}
	return comparison{kind: f.Kind, a: termOf(f.Terms[0], vars), b: termOf(f.Terms[1], vars)}
}

// kept is those rows of a table for which it holds.
func (c comparison) kept(from api.Table) (api.Table, api.Errno) {
	kept := api.Table{Vars: from.Vars}
	for _, row := range from.Rows {
		yes, e := c.holds(row)
		if e != api.OK {
			return api.Table{}, e
		}
		if yes {
			kept.Rows = append(kept.Rows, row)
		}
	}
	return kept, api.OK
}

func (c comparison) holds(row []api.Value) (bool, api.Errno) {
	a, e := c.a.of(row)
	if e != api.OK {
		return false, e
	}
	b, e := c.b.of(row)
	if e != api.OK {
		return false, e
	}
	return c.isTold(value.Compare(a, b)) != c.not, api.OK
}

// isTold is of the order of two values.
func (c comparison) isTold(order int) bool {
	switch c.kind {
	case api.Equal:
		return order == 0
	case api.Less:
		return order < 0
	}
	return order <= 0
}
