package engine

import (
	"slices"

	"custos/api"
)

// course is a formula's parts, and the times of as many points, on end, up to the last one that has come.
type course struct {
	whole part
	tales []tale
	first int
	times []int64
}

// tale is what a Let or LetPast tells of its predicate: the tables of its first part, of points on end, until all that
// ask for them have taken them.
type tale struct {
	past   bool // whether it is a LetPast's
	part   part
	none   api.Table // that without rows
	first  int
	tables []api.Table
	// While a round is gone through: at how many points a table was supposed and the part has not told its own, those
	// that it has told, and whether it is supposed to be over behind them.
	owed  int
	found []api.Table
	ended bool
}

func (c *course) come() int { return c.first + len(c.times) }

func (c *course) time(at int) int64 { return c.times[at-c.first] }

// take takes a point, and goes on as far as that allows.
func (c *course) take(p api.Point) {
	c.times = append(c.times, p.Time)
	for _, t := range c.tales {
		t.part.meet(p)
	}
	c.whole.meet(p)
	c.goOn()
}

func (c *course) goOn() {
	c.goOnTelling()
	c.settleRounds()
	goOn(c.whole, c)
	for i := range c.tales {
		c.tales[i].forget()
	}
}

// goOnTelling goes through the tales again as long as one of them has more to tell: they may ask for each other's
// tables, and that of a LetPast for its own.
func (c *course) goOnTelling() {
	for more := true; more; {
		more = false
		for i := range c.tales {
			more = c.tales[i].goOn(c) || more
		}
	}
}

// forget lets go of the times of points whose answers were told: all parts that are not over have told theirs there.
func (c *course) forget(first int) {
	c.times = c.times[first-c.first:]
	c.first = first
}

func (c *course) clone() course {
	d := course{first: c.first, times: slices.Clone(c.times)}
	for _, t := range c.tales {
		t.part = t.part.clone()
		t.tables = slices.Clone(t.tables)
		d.tales = append(d.tales, t)
	}
	if c.whole != nil {
		d.whole = c.whole.clone()
	}
	return d
}

// goOn is whether there is more than there was.
func (t *tale) goOn(c *course) bool {
	before := t.part.look()
	goOn(t.part, c)
	more := before == here || t.part.look() != before
	for t.part.look() == here {
		t.lay(t.part.take())
	}
	return more
}

func (t *tale) lay(x api.Table) {
	if t.owed > 0 {
		t.owed--
		t.found = append(t.found, x)
		return
	}
	t.tables = append(t.tables, x)
}

// come is up to which point the tables are here.
func (t *tale) come() int { return t.first + len(t.tables) }

// look is what is known at a point, take the table that is here. What the part has told and nobody has laid down is not
// known as yet.
func (t *tale) look(at int) state {
	switch {
	case at < t.come():
		return here
	case t.ended || t.part.look() == over:
		return over
	}
	return waits
}

func (t *tale) take(at int) api.Table { return t.tables[at-t.first] }

func (t *tale) forget() {
	t.first = t.come()
	t.tables = nil
}
