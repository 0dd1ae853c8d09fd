package match

import (
	"cmp"
	"math"
	"slices"
	"sort"
	"strings"

	"custos/api"
)

// span is the points from the first to the last one.
type span struct{ first, last int }

// end is a row of the matches that end at a point, and where these begin: spans that rise, with a point between each
// two of them.
//
// Neither is ever changed, and no list of ends is, once it is made: so many lists, and clones, have the same ones. In
// each list rows rise (byRow), and none stands there twice.
type end struct {
	row  []api.Value
	from []span
}

// begun is the matches that begin at a point and have met nothing as yet.
func begun(at int) []end { return []end{{from: []span{{at, at}}}} }

// window is which beginnings count: none ahead of low, and of those up to high the last one alone, since it counts as
// long as any of them does.
type window struct{ low, high int }

// tells is whether one of the points from low to high is among some.
func (w window) tells(from []span) bool {
	return slices.ContainsFunc(from, func(s span) bool { return max(s.first, w.low) <= min(s.last, w.high) })
}

// moved is a list moved on to the point whose window this is. It is a copy, as others may have the list.
func (w window) moved(l []end) []end {
	next := make([]end, len(l))
	copy(next, l)
	for i := range next {
		next[i].from = w.counting(next[i].from)
	}
	next = slices.DeleteFunc(next, func(e end) bool { return len(e.from) == 0 })
	if 2*len(next) < len(l) {
		// Few are not to hold on to the room of many.
		return slices.Clone(next)
	}
	return next
}

// counting leaves out whole spans alone: what else does not count is passed over wherever it would be told.
func (w window) counting(from []span) []span {
	for len(from) > 0 && (from[0].last < w.low || len(from) > 1 && from[1].first <= w.high) {
		from = from[1:]
	}
	return from
}

// lasting is the farthest window to which a list is moved on without a change.
func lasting(l []end) window {
	w := window{math.MaxInt, math.MaxInt}
	for _, e := range l {
		w.low = min(w.low, e.from[0].last)
		if len(e.from) > 1 {
			w.high = min(w.high, e.from[1].first-1)
		}
	}
	return w
}

func (w window) within(other window) bool { return w.low <= other.low && w.high <= other.high }

// union is the ends of both. What stands on end in one of them is laid down at once, as often few come to many.
func union(a, b []end) []end {
	if len(a) == 0 {
		return b
	}
	if len(b) == 0 {
		return a
	}
	all := make([]end, 0, max(len(a), len(b)))
	var same twins
merging:
	for {
		n := standingAhead(a, b[0])
		all, a = append(all, a[:n]...), a[n:]
		if len(a) == 0 {
			break merging
		}
		if byRow(a[0], b[0]) == 0 {
			all = append(all, end{a[0].row, same.joint(a[0].from, b[0].from)})
			a, b = a[1:], b[1:]
		}
		if len(a) == 0 || len(b) == 0 {
			break merging
		}
		a, b = b, a
	}
	all = append(all, a...)
	return append(all, b...)
}

// standingAhead is how many of a list stand ahead of an end; it is found by ever longer strides.
func standingAhead(l []end, e end) int {
	far := 1
	for far < len(l) && byRow(l[far-1], e) < 0 {
		far *= 2
	}
	near := far / 2
	return near + sort.Search(min(far, len(l))-near, func(n int) bool { return byRow(l[near+n], e) >= 0 })
}

// twins are the last two lists of spans that were joined, and what was made of them. Rows that came together share
// where they begin, and shall go on to do so.
type twins struct{ a, b, both []span }

func (t *twins) joint(a, b []span) []span {
	// Two lists that are merged change places as they go.
	if !t.are(a, b) && !t.are(b, a) {
		*t = twins{a, b, joint(a, b)}
	}
	return t.both
}

func (t *twins) are(a, b []span) bool { return areOne(a, t.a) && areOne(b, t.b) }

// areOne is whether both are the same piece of memory.
func areOne(a, b []span) bool { return len(a) == len(b) && len(a) > 0 && &a[0] == &b[0] }

// gathered is the ends of a list in any order, in which rows may stand more than once.
func gathered(l []end) []end {
	slices.SortFunc(l, byRow)
	var all []end
	for len(l) > 0 {
		n := 1
		for n < len(l) && byRow(l[0], l[n]) == 0 {
			n++
		}
		all = append(all, end{l[0].row, together(l[:n])})
		l = l[n:]
	}
	return all
}

// together is where any of some ends begin.
func together(l []end) []span {
	if len(l) == 1 {
		return l[0].from
	}
	var spans []span
	for _, e := range l {
		spans = append(spans, e.from...)
	}
	slices.SortFunc(spans, func(a, b span) int { return cmp.Compare(a.first, b.first) })
	var all []span
	for _, s := range spans {
		all = with(all, s)
	}
	return all
}

// joint is the points of both.
func joint(a, b []span) []span {
	if covers(a, b) {
		return a
	}
	if covers(b, a) {
		return b
	}
	all := make([]span, 0, len(a)+len(b))
	for len(a)+len(b) > 0 {
		if len(a) == 0 || len(b) > 0 && b[0].first < a[0].first {
			a, b = b, a
		}
		all = with(all, a[0])
		a = a[1:]
	}
	return all
}

// with takes a span that does not begin ahead of the last one.
func with(all []span, s span) []span {
	n := len(all) - 1
	if n < 0 || all[n].last < s.first-1 {
		return append(all, s)
	}
	all[n].last = max(all[n].last, s.last)
	return all
}

func covers(a, b []span) bool {
	for _, s := range b {
		for len(a) > 0 && a[0].last < s.first {
			a = a[1:]
		}
		if len(a) == 0 || a[0].first > s.first || a[0].last < s.last {
			return false
		}
	}
	return true
}

// upTo is the ends whose matches begin at no point behind the last one.
func upTo(l []end, last int) []end {
	var some []end
	var whole, from []span
	for _, e := range l {
		// Rows that came together go on to share where they begin.
		if !areOne(e.from, whole) {
			whole, from = e.from, spansUpTo(e.from, last)
		}
		if len(from) > 0 {
			some = append(some, end{e.row, from})
		}
	}
	return some
}

func spansUpTo(from []span, last int) []span {
	n := len(from)
	for n > 0 && from[n-1].first > last {
		n--
	}
	if n == 0 || from[n-1].last <= last {
		return from[:n]
	}
	cut := slices.Clone(from[:n])
	cut[n-1].last = last
	return cut
}

// byRow is an order of rows by which lists are merged. Nobody is told it: a table's own order is made when it is told.
func byRow(a, b end) int { return slices.CompareFunc(a.row, b.row, byFields) }

func byFields(a, b api.Value) int {
	if a.Kind != b.Kind {
		return cmp.Compare(a.Kind, b.Kind)
	}
	if a.N != b.N {
		return cmp.Compare(a.N, b.N)
	}
	if a.D != b.D {
		return cmp.Compare(a.D, b.D)
	}
	return strings.Compare(a.S, b.S)
}
