package engine

import (
	"slices"

	"custos/api"
	"custos/table"
)

// maxRounds is how often a round is gone through at most, as there are some that never settle.
const maxRounds = 256

// guess is what a tale is supposed to tell of some points: tables, and, if so, that it is over behind them.
type guess struct {
	tables []api.Table
	over   bool
}

// settleRounds is for a LetPast whose table at a point hangs on itself there: of points at one time, Next, Soon, Until
// and After of [0,0] look ahead, and so a Prev's part may be asked at a point behind. The words of the document are met
// by any tables that fit one another then; these are the least ones: none has a row at first, and what follows from that
// is supposed in turn, till nothing changes.
func (c *course) settleRounds() {
	stuck := c.stuck()
	if len(stuck) == 0 {
		return
	}
	guesses := make([]guess, len(c.tales))
	for _, k := range stuck {
		t := &c.tales[k]
		guesses[k].tables = slices.Repeat([]api.Table{t.none}, c.due()-t.come())
	}
	before := *c
	for n, settled := 0, false; n < maxRounds && !settled; n++ {
		*c = before.supposing(stuck, guesses)
		settled = true
		for _, k := range stuck {
			found := c.tales[k].answer()
			settled = settled && found.isSame(guesses[k])
			guesses[k] = found
		}
	}
}

// due is up to which point all that look ahead at no later time must have told.
func (c *course) due() int {
	n := len(c.times)
	for n > 0 && c.times[n-1] == c.times[len(c.times)-1] {
		n--
	}
	return c.first + n
}

// stuck are the LetPasts' tales that have not told all that is due.
func (c *course) stuck() []int {
	var l []int
	for k, t := range c.tales {
		if t.past && t.come() < c.due() && t.look(t.come()) == waits {
			l = append(l, k)
		}
	}
	return l
}

func (c *course) supposing(stuck []int, guesses []guess) course {
	d := c.clone()
	for _, k := range stuck {
		t := &d.tales[k]
		t.tables = append(t.tables, guesses[k].tables...)
		t.owed = len(guesses[k].tables)
		t.ended = guesses[k].over
	}
	d.goOnTelling()
	return d
}

func (g guess) isSame(h guess) bool {
	return g.over == h.over && slices.EqualFunc(g.tables, h.tables, table.Same)
}

// answer is what a tale tells in the place of what it was supposed to.
func (t *tale) answer() guess {
	found := guess{t.found, t.part.look() == over}
	t.found = nil
	return found
}
