package engine

import (
	"slices"

	"custos/api"
	"custos/future"
	"custos/match"
	"custos/past"
)

// prev is a Prev. What it tells of a point hangs on the points below alone, and is told ahead of what its part tells of
// that point: so a LetPast's table may hang on its own. Each table is told to the operator twice over, with its own
// point and, once the next one has come, in place of that one's table, at which nobody looks then.
type prev struct {
	basis
	op   *past.Past
	none []api.Table
}

func (p *prev) step(c *course) bool {
	if p.ended || p.told == c.come() {
		return false
	}
	if p.told > 0 {
		l, ok := p.all(c)
		if !ok {
			return false
		}
		p.op.Step(c.time(p.told-1), l)
	}
	return p.tell(p.op.Step(c.time(p.told), p.none))
}

func (p *prev) clone() part { return &prev{p.copied(), p.op.Clone(), p.none} }

// next is a Next. Of a point behind which the next one is too far off it tells that ahead of what its part tells of that
// one, which need not be there when the answer is due.
type next struct {
	basis
	op   *future.Future
	hi   int64
	none []api.Table
}

func (n *next) step(c *course) bool {
	i := n.told
	if n.ended || i+1 >= c.come() {
		return false
	}
	if n.asked <= i {
		_, ok := n.all(c)
		return ok
	}
	l := n.none
	if c.time(i+1)-c.time(i) <= n.hi {
		asked, ok := n.all(c)
		if !ok {
			return false
		}
		l = asked
	}
	// As with prev: of the first point the time alone is looked at.
	n.op.Step(c.time(i), n.none)
	told, e := n.op.Step(c.time(i+1), l)
	return n.tell(told[0].Table, e)
}

func (n *next) clone() part { return &next{n.copied(), n.op.Clone(), n.hi, n.none} }

// back is Once and Since.
type back struct {
	basis
	op *past.Past
}

func (b *back) step(c *course) bool {
	l, ok := b.all(c)
	return ok && b.tell(b.op.Step(c.time(b.told), l))
}

func (b *back) clone() part { return &back{b.copied(), b.op.Clone()} }

// before is a Before.
type before struct {
	basis
	op *match.Match
}

func (b *before) step(c *course) bool {
	l, ok := b.all(c)
	if !ok {
		return false
	}
	told, e := b.op.Step(c.time(b.told), l)
	return b.tell(told[0].Table, e)
}

func (b *before) clone() part { return &before{b.copied(), b.op.Clone()} }

// ahead is what Soon, Until and After have. Their operators tell a point's table with the first point that is too far
// behind it; but what the parts tell of that one may come later than the answer is due.
type ahead struct {
	basis
	hi int64
}

// isSettled is whether the next point to be told is, by one of which the parts have not told their tables.
func (a *ahead) isSettled(c *course) bool {
	return !a.ended && a.told < a.asked && a.asked < c.come() && c.time(a.told)+a.hi < c.time(a.asked)
}

// until is Soon and Until. What is settled by a point whose tables are not here is told by one more, at its time: it
// has the first part's rows of the point ahead, so that it breaks off nothing, and none of the second part.
type until struct {
	ahead
	op   *future.Future
	left []api.Table // of Until: the first part's table at the point ahead
	none api.Table
	own  []bool // of each point that the operator has not told: whether it is one of the log
}

func (u *until) step(c *course) bool {
	l, s := u.ask(c)
	switch {
	case s == here:
		u.left = l[:len(l)-1]
		return u.run(c.time(u.asked-1), l, true)
	case u.isSettled(c):
		return u.run(c.time(u.asked), append(slices.Clone(u.left), u.none), false)
	}
	if s == over {
		u.end()
	}
	return false
}

func (u *until) run(time int64, tables []api.Table, own bool) bool {
	told, _ := u.op.Step(time, tables)
	u.own = append(u.own, own)
	for _, v := range told {
		if u.own[0] {
			u.tell(v.Table, api.OK)
		}
		u.own = u.own[1:]
	}
	return true
}

func (u *until) clone() part {
	return &until{ahead{u.copied(), u.hi}, u.op.Clone(), slices.Clone(u.left), u.none, slices.Clone(u.own)}
}

// after is After. What is settled by a point whose tables are not here is told by a clone of the operator, which is told
// none: a point more would be a step more.
type after struct {
	ahead
	op   *match.Match
	none []api.Table
}

func (a *after) step(c *course) bool {
	l, s := a.ask(c)
	switch {
	case s == here:
		return a.run(a.op, c.time(a.asked-1), l)
	case a.isSettled(c):
		return a.run(a.op.Clone(), c.time(a.asked), a.none)
	}
	if s == over {
		a.end()
	}
	return false
}

// run passes over what a clone has told.
func (a *after) run(op *match.Match, time int64, tests []api.Table) bool {
	told, _ := op.Step(time, tests)
	for _, v := range told {
		if v.At >= a.told {
			a.tell(v.Table, api.OK)
		}
	}
	return true
}

func (a *after) clone() part { return &after{ahead{a.copied(), a.hi}, a.op.Clone(), a.none} }
