package future

import (
	"maps"
	"slices"

	"custos/api"
)

// key is a row's values at some columns, as a thing that a map can be asked by; no place behind them is used.
type key [api.MaxVars]api.Value

// span is a row, and the points from the first to the last one that have it. The row itself is never changed.
type span struct {
	row         []api.Value
	first, last int
}

// store keeps rows for the points that wait.
//
// A row that comes is had by a span of points: from the first one on from which left carries it, up to the last one that
// the interval allows. It would take long to hand it to each of them: it stands there once, with the ends of the span,
// and spans of one row that meet are one. So no point that is told meets a row twice.
type store struct {
	not        bool
	columns    []int // where the left part's variables stand in a row
	first, now int   // the first point that waits, and the one that comes
	// By left's values, the first point from which on left carries a row with them up to now. What is not there is
	// carried from the point that comes alone, or, with not, from the first one that waits.
	from   map[key]int
	latest map[key]*span   // the last span of each row
	starts map[int][]*span // by their first points, those of which no point was told
	begun  []*span         // those of which some points were told, and not all
	newest int             // the point that came when forget went through all rows
}

func newStore(not bool, columns []int) *store {
	return &store{not: not, columns: columns, from: make(map[key]int), latest: make(map[key]*span), starts: make(map[int][]*span)}
}

// at is the rows of the first point that waits, which is told then.
func (s *store) at(point int) [][]api.Value {
	s.begun = append(s.begun, s.starts[point]...)
	delete(s.starts, point)
	var rows [][]api.Value
	for _, l := range s.begun {
		rows = append(rows, l.row)
	}
	s.begun = slices.DeleteFunc(s.begun, func(l *span) bool { return l.last <= point })
	return rows
}

// move goes on to the next point that comes, and to the first one that waits then.
func (s *store) move(first, now int) {
	s.first, s.now = first, now
	s.forget()
}

// forget lets go of what no point that waits asks for. It goes through all that is kept, and not again until all points
// that wait now are told: so what comes is gone through a few times at most.
func (s *store) forget() {
	if s.first <= s.newest {
		return
	}
	s.newest = s.now
	s.latest = kept(s.latest, s.waits)
	if s.not {
		s.from = kept(s.from, func(from int) bool { return from > s.first })
	}
}

// kept is a new map, as one from which keys are deleted holds on to their room.
func kept[V any](all map[key]V, wanted func(V) bool) map[key]V {
	some := make(map[key]V)
	for k, v := range all {
		if wanted(v) {
			some[k] = v
		}
	}
	return some
}

// waits is whether a span has points that are not told.
func (s *store) waits(l *span) bool { return l.last >= s.first }

// take takes rows that come now, for no point behind the last one. As first and last points of a row's spans never
// fall, one that meets the span ahead of it moves that one's end on, and does nothing else.
func (s *store) take(rows [][]api.Value, last int) {
	for _, row := range rows {
		first := s.carried(keyAt(row, s.columns))
		if first > last {
			continue
		}
		k := keyOf(row)
		if l := s.latest[k]; l != nil && s.waits(l) && l.last >= first-1 {
			l.last = last
			continue
		}
		l := &span{slices.Clone(row), first, last}
		s.latest[k] = l
		s.starts[first] = append(s.starts[first], l)
	}
}

// carried is the first point that waits from which on left carries rows with these values up to now.
func (s *store) carried(by key) int {
	from, known := s.from[by]
	switch {
	case known:
		return max(from, s.first)
	case s.not:
		return s.first
	default:
		return s.now
	}
}

// sift takes what left has at the point that has come.
func (s *store) sift(left [][]api.Value) {
	if s.not {
		for _, row := range left {
			s.from[keyOf(row)] = s.now + 1
		}
		return
	}
	from := make(map[key]int, len(left))
	for _, row := range left {
		from[keyOf(row)] = s.carried(keyOf(row))
	}
	s.from = from
}

// clone has spans of its own, as their ends are moved on. Both have the same rows, as nobody changes them.
func (s *store) clone() *store {
	c := *s
	c.from = maps.Clone(s.from)
	c.latest = make(map[key]*span, len(s.latest))
	copied := func(l []*span) []*span {
		var own []*span
		for _, old := range l {
			young := *old
			own = append(own, &young)
			if k := keyOf(old.row); s.latest[k] == old {
				c.latest[k] = &young
			}
		}
		return own
	}
	c.begun = copied(s.begun)
	c.starts = make(map[int][]*span, len(s.starts))
	for first, l := range s.starts {
		c.starts[first] = copied(l)
	}
	return &c
}

func keyOf(row []api.Value) key {
	var k key
	copy(k[:], row)
	return k
}

func keyAt(row []api.Value, columns []int) key {
	var k key
	for i, c := range columns {
		k[i] = row[c]
	}
	return k
}
