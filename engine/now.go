package engine

import (
	"custos/aggreg"
	"custos/api"
	"custos/mjoin"
	"custos/table"
)

// always is True, False, and a comparison without another variable than one that gets its value: the same at each point.
type always struct {
	basis
	table api.Table
	e     api.Errno
}

func (a *always) meet(api.Point) { a.tell(a.table, a.e) }

func (a *always) step(*course) bool { return false }

func (a *always) clone() part { return &always{a.copied(), a.table, a.e} }

// events is a Pred of the signature.
type events struct {
	basis
	name string
	form form
}

func (p *events) meet(point api.Point) {
	var l [][]api.Value
	for _, e := range point.Events {
		if e.Name == p.name {
			l = append(l, freshRow(e.Args))
		}
	}
	p.tell(p.form.fitting(l))
}

func (p *events) step(*course) bool { return false }

func (p *events) clone() part { return &events{p.copied(), p.name, p.form} }

// retold is a Pred that a Let or LetPast tells: columns are where its arguments stand in the rows of that one's table.
type retold struct {
	basis
	tale    int
	columns []int
	form    form
}

func (p *retold) step(c *course) bool {
	t := &c.tales[p.tale]
	switch t.look(p.told) {
	case over:
		p.end()
		return false
	case waits:
		return false
	}
	var l [][]api.Value
	for _, row := range t.take(p.told).Rows {
		l = append(l, pick(row, p.columns))
	}
	return p.tell(p.form.fitting(l))
}

func (p *retold) clone() part { return &retold{p.copied(), p.tale, p.columns, p.form} }

// negated is a Not of a closed formula.
type negated struct{ basis }

func (n *negated) step(c *course) bool {
	l, ok := n.all(c)
	return ok && n.tell(table.Anti(table.True(), l[0]))
}

func (n *negated) clone() part { return &negated{n.copied()} }

// both is an And whose second part is accepted.
type both struct{ basis }

func (b *both) step(c *course) bool {
	l, ok := b.all(c)
	return ok && b.tell(table.Join(l[0], l[1]))
}

func (b *both) clone() part { return &both{b.copied()} }

// without is an And whose second part is a Not: the parts are the first one, and what that Not is of.
type without struct{ basis }

func (w *without) step(c *course) bool {
	l, ok := w.all(c)
	return ok && w.tell(table.Anti(l[0], l[1]))
}

func (w *without) clone() part { return &without{w.copied()} }

// compared is an And whose second part is a comparison, or the Not of one.
type compared struct {
	basis
	by comparison
}

func (p *compared) step(c *course) bool {
	l, ok := p.all(c)
	return ok && p.tell(p.by.kept(l[0]))
}

func (p *compared) clone() part { return &compared{p.copied(), p.by} }

// assigned is an And whose second part gives a variable its value.
type assigned struct {
	basis
	name string
	term term
}

func (a *assigned) step(c *course) bool {
	l, ok := a.all(c)
	return ok && a.tell(a.term.added(l[0], a.name))
}

func (a *assigned) clone() part { return &assigned{a.copied(), a.name, a.term} }

// either is an Or.
type either struct{ basis }

func (o *either) step(c *course) bool {
	l, ok := o.all(c)
	return ok && o.tell(table.Union(l[0], l[1]))
}

func (o *either) clone() part { return &either{o.copied()} }

// some is an Exists.
type some struct {
	basis
	vars []string
}

func (s *some) step(c *course) bool {
	l, ok := s.all(c)
	return ok && s.tell(table.Drop(l[0], s.vars))
}

func (s *some) clone() part { return &some{s.copied(), s.vars} }

// grouped is an Agg of values of a kind.
type grouped struct {
	basis
	name string
	op   int
	vars []string
	kind int
}

func (g *grouped) step(c *course) bool {
	l, ok := g.all(c)
	return ok && g.tell(aggreg.Do(g.op, l[0], g.vars[0], g.vars[1:], g.name, g.kind))
}

func (g *grouped) clone() part { return &grouped{g.copied(), g.name, g.op, g.vars, g.kind} }

// joined is a Join: the first ones of its parts are joined, the others what its Nots are of.
type joined struct {
	basis
	first int
}

func (j *joined) step(c *course) bool {
	l, ok := j.all(c)
	return ok && j.tell(mjoin.Join(l[:j.first], l[j.first:]))
}

func (j *joined) clone() part { return &joined{j.copied(), j.first} }
