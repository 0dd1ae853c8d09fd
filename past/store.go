package past

import (
	"slices"

	"custos/api"
)

// key is a row's values at some columns, as a thing that a map can be asked by; no place behind them is used.
type key [api.MaxVars]api.Value

// span is all times from the first to the last one.
type span struct{ first, last int64 }

// held is a row and the spans at which it is to be told, which rise with a time between each two of them: so a row that
// comes again and again takes no more room than it must. The row itself is never changed.
type held struct {
	row   []api.Value
	spans []span
	begun bool // whether it stands in the list of the same name
}

// group is rows by all their values.
type group map[key]*held

// wait is a span that has not begun.
type wait struct {
	first int64
	row   *held
}

// store keeps rows until the times at which they are to be told are over, or until they are let go.
//
// No step goes through all of them: those that one row of a left part fits to stand in a group, those that are to be
// told now in a list, and the spans that are still to begin in another one, in their order.
type store struct {
	columns []int // where the left part's variables stand in a row
	groups  map[key]group
	begun   []*held
	waiting []wait
	gone    int // how many spans were let go, at most so many of which still stand in waiting
}

// take takes rows that come now, to be told at a span that neither begins nor ends ahead of those that came.
func (s *store) take(rows [][]api.Value, at span) {
	for _, row := range rows {
		h := s.heldOf(row)
		last := len(h.spans) - 1
		if last >= 0 && h.spans[last].last >= at.first-1 {
			h.spans[last].last = at.last
			continue
		}
		h.spans = append(h.spans, at)
		s.waiting = append(s.waiting, wait{at.first, h})
	}
}

func (s *store) heldOf(row []api.Value) *held {
	by, k := keyAt(row, s.columns), keyOf(row)
	if s.groups[by] == nil {
		s.groups[by] = make(group)
	}
	h := s.groups[by][k]
	if h == nil {
		h = &held{row: slices.Clone(row)}
		s.groups[by][k] = h
	}
	return h
}

// at is the rows that are to be told at a time; what is over then is kept no longer.
func (s *store) at(time int64) [][]api.Value {
	s.begin(time)
	var rows [][]api.Value
	s.begun = slices.DeleteFunc(s.begun, func(h *held) bool {
		h.forget(time)
		h.begun = len(h.spans) > 0 && h.spans[0].first <= time
		if h.begun {
			rows = append(rows, h.row)
		} else if len(h.spans) == 0 {
			s.drop(h)
		}
		return !h.begun
	})
	return rows
}

// begin brings rows from the list of those that wait to that of those that have begun.
func (s *store) begin(time int64) {
	n := 0
	for n < len(s.waiting) && s.waiting[n].first <= time {
		h := s.waiting[n].row
		if !h.begun {
			h.begun = true
			s.begun = append(s.begun, h)
		}
		n++
	}
	// What has gone is not to be held on to by the room that it stood in.
	clear(s.waiting[:n])
	s.waiting = s.waiting[n:]
}

func (h *held) forget(time int64) {
	for len(h.spans) > 0 && h.spans[0].last < time {
		h.spans = h.spans[1:]
	}
}

// drop takes a row out of its group, unless it was let go and another one with its values has come.
func (s *store) drop(h *held) {
	by, k := keyAt(h.row, s.columns), keyOf(h.row)
	if s.groups[by][k] != h {
		return
	}
	delete(s.groups[by], k)
	if len(s.groups[by]) == 0 {
		delete(s.groups, by)
	}
}

// without lets go of all rows to which one of left fits, within of all others.
func (s *store) without(left [][]api.Value) {
	for _, row := range left {
		s.letGo(keyOf(row))
	}
	s.tidy()
}

func (s *store) within(left [][]api.Value) {
	kept := make(map[key]group)
	for _, row := range left {
		by := keyOf(row)
		if g := s.groups[by]; g != nil {
			kept[by] = g
			delete(s.groups, by)
		}
	}
	for by := range s.groups {
		s.letGo(by)
	}
	s.groups = kept
	s.tidy()
}

// letGo takes all spans from the rows of a group, by which the lists see that they have gone.
func (s *store) letGo(by key) {
	for _, h := range s.groups[by] {
		s.gone += len(h.spans)
		h.spans = nil
	}
	delete(s.groups, by)
}

// tidy goes through the list of what waits only where that is worth it, since a little may be let go at each point.
func (s *store) tidy() {
	if 2*s.gone <= len(s.waiting) {
		return
	}
	s.waiting = slices.DeleteFunc(s.waiting, func(w wait) bool { return len(w.row.spans) == 0 })
	s.gone = 0
}

// clone leaves behind what has gone. Both have the same rows, as nobody changes them.
func (s *store) clone() store {
	c := store{columns: s.columns, groups: make(map[key]group, len(s.groups))}
	for by, g := range s.groups {
		c.groups[by] = make(group, len(g))
		for k, h := range g {
			c.groups[by][k] = &held{h.row, slices.Clone(h.spans), h.begun}
		}
	}
	for _, h := range s.begun {
		c.begun = append(c.begun, c.heldOf(h.row))
	}
	for _, w := range s.waiting {
		if len(w.row.spans) > 0 {
			c.waiting = append(c.waiting, wait{w.first, c.heldOf(w.row.row)})
		}
	}
	return c
}

func keyOf(row []api.Value) key {
	var k key
	copy(k[:], row)
	return k
}

func keyAt(row []api.Value, columns []int) key {
	var k key
	for i, c := range columns {
		k[i] = row[c]
	}
	return k
}
