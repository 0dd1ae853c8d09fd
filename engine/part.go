package engine

import (
	"slices"

	"custos/api"
)

// state is what is known of a part at the point behind those that were taken from it.
type state int

const (
	waits state = iota // nothing as yet
	here               // its table
	over               // that it is over
)

// part is a part of the formula on its way along the log. It tells its tables at the points 0, 1, 2 .., each as soon as
// all that it asks is there, up to one at which it is over.
type part interface {
	// meet is called once for each point that comes.
	meet(p api.Point)
	// step does the next thing that can be done, if there is one, when the parts within have done all that they can.
	step(c *course) bool
	within() []part
	look() state
	take() api.Table
	clone() part
}

// basis is what every part has. No table that was told is ever changed, so many may have the same one.
type basis struct {
	parts []part
	asked int         // at how many points the parts within were asked
	told  int         // of how many points it told its table
	queue []api.Table // those that nobody has taken
	ended bool        // whether it is over at the point behind those that it told
}

// goOn does all that can be done, from within.
func goOn(p part, c *course) {
	for _, q := range p.within() {
		goOn(q, c)
	}
	for p.step(c) {
	}
}

func (b *basis) meet(p api.Point) {
	for _, q := range b.parts {
		q.meet(p)
	}
}

func (b *basis) within() []part { return b.parts }

func (b *basis) look() state {
	switch {
	case len(b.queue) > 0:
		return here
	case b.ended:
		return over
	}
	return waits
}

func (b *basis) take() api.Table {
	t := b.queue[0]
	// What has gone is not to be held on to by the room that it stood in.
	b.queue[0] = api.Table{}
	b.queue = b.queue[1:]
	return t
}

// ask takes the tables of the parts within at the next point, if all of them are here.
func (b *basis) ask(c *course) ([]api.Table, state) {
	if b.ended || b.asked == c.come() {
		return nil, waits
	}
	s := here
	for _, q := range b.parts {
		switch q.look() {
		case over:
			return nil, over
		case waits:
			s = waits
		}
	}
	if s == waits {
		return nil, waits
	}
	var l []api.Table
	for _, q := range b.parts {
		l = append(l, q.take())
	}
	b.asked++
	return l, here
}

// all is ask for a part that is over where one of those within is.
func (b *basis) all(c *course) ([]api.Table, bool) {
	l, s := b.ask(c)
	if s == over {
		b.end()
	}
	return l, s == here
}

// tell lays down what the part is at the next point: a table, or, with an error, over: no other one is met, as all
// kinds and variables fit.
func (b *basis) tell(t api.Table, e api.Errno) bool {
	if b.ended || e != api.OK {
		b.end()
		return false
	}
	b.queue = append(b.queue, t)
	b.told++
	return true
}

// end is that it is over: so nothing is asked of the parts within any more.
func (b *basis) end() {
	b.ended = true
	b.parts = nil
}

func (b *basis) copied() basis {
	c := *b
	c.queue = slices.Clone(b.queue)
	c.parts = nil
	for _, q := range b.parts {
		c.parts = append(c.parts, q.clone())
	}
	return c
}
