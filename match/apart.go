package match

import (
	"slices"
	"sort"

	"custos/api"
)

// left is the ends that were fed at a point. None of them goes as long as the window stays within that one.
type left struct {
	at    int
	ends  []end
	stays window
}

func leftAt(at int, ends []end) left { return left{at, ends, lasting(ends)} }

// apart is a Seq that is looked for by itself, from each point on at which it is fed: what was fed waits, and is joined
// with the rows of whole matches alone.
//
// To feed a part of the Seq with what the other part has made of it may make far more rows than either has, although
// few of them are left in the end: rows of x joined with rows of y, of which the next test knows few pairs. By the
// meaning of a Seq its own table is made first, so there is no such table on the way.
type apart struct {
	whole   pattern // its ends begin at the points at which it was fed
	pairing         // of what is fed with the whole's rows
	head    *test   // the test by which each match begins, where there is one, paired with what is fed
	waiting []left  // by points, which rise
}

func (b *builder) apart(r api.Regex, given []string) pattern {
	a := &apart{pairing: paired(given, varsOf(r))}
	first := r
	for first.Kind == api.Seq {
		first = first.Subs[0]
	}
	if first.Kind == api.Test {
		a.head = &test{b.tests, paired(given, varsOf(first))}
	}
	a.whole = b.pattern(r, nil)
	return a
}

func (a *apart) arrive(p now, w window) []end {
	a.forget(w)
	low := p.at
	if len(a.waiting) > 0 {
		low = a.waiting[0].at
	}
	// No beginning stands for another one here: each has rows of its own.
	wholes := a.whole.arrive(p, window{low, -1})
	arrived := a.joined(wholes)
	a.drop()
	return arrived
}

func (a *apart) feed(p now, in []end) []end {
	if a.head != nil {
		in = a.head.within(in, p.tests[a.head.number].Rows)
	}
	if len(in) == 0 {
		return nil
	}
	a.leave(p.at, in)
	return a.join(in, rowsOf(a.whole.feed(p, begun(p.at))))
}

// leave lets ends wait, beside those that were fed at the same point.
func (a *apart) leave(at int, ends []end) {
	n := len(a.waiting) - 1
	if n >= 0 && a.waiting[n].at == at {
		a.waiting[n] = leftAt(at, union(a.waiting[n].ends, ends))
		return
	}
	a.waiting = append(a.waiting, leftAt(at, ends))
}

// joined is what waits, joined with the rows of the wholes that began where it was fed.
func (a *apart) joined(wholes []end) []end {
	rows := make([][][]api.Value, len(a.waiting))
	for _, e := range wholes {
		for _, s := range e.from {
			first, behind := a.places(s)
			for n := first; n < behind; n++ {
				rows[n] = append(rows[n], e.row)
			}
		}
	}
	var all []end
	for n, l := range a.waiting {
		all = append(all, a.join(l.ends, rows[n])...)
	}
	return gathered(all)
}

// places are those in the list of what waits that a span of points has: from the first one up to the other, which is behind them.
func (a *apart) places(s span) (first, behind int) {
	first = sort.Search(len(a.waiting), func(n int) bool { return a.waiting[n].at >= s.first })
	behind = sort.Search(len(a.waiting), func(n int) bool { return a.waiting[n].at > s.last })
	return first, behind
}

// forget lets go of what begins at no point that counts.
func (a *apart) forget(w window) {
	var some []left
	for _, l := range a.waiting {
		// Many points may wait, with many ends each: they are gone through when some of them go, not at each point.
		if !w.within(l.stays) {
			l = leftAt(l.at, w.moved(l.ends))
		}
		if len(l.ends) > 0 {
			some = append(some, l)
		}
	}
	a.waiting = some
}

// drop lets go of what waits for wholes of which none is on its way any more.
func (a *apart) drop() {
	// How many more lists have a place than the place ahead of it.
	more := make([]int, len(a.waiting)+1)
	a.whole.kept(func(l []end) {
		for _, e := range l {
			for _, s := range e.from {
				first, behind := a.places(s)
				more[first]++
				more[behind]--
			}
		}
	})
	var some []left
	lists := 0
	for n, l := range a.waiting {
		if lists += more[n]; lists > 0 {
			some = append(some, l)
		}
	}
	a.waiting = some
}

func (a *apart) kept(visit func(l []end)) {
	for _, l := range a.waiting {
		visit(l.ends)
	}
}

func (a *apart) clone() pattern {
	c := *a
	c.whole = a.whole.clone()
	c.waiting = slices.Clone(a.waiting)
	return &c
}

func rowsOf(l []end) [][]api.Value {
	var rows [][]api.Value
	for _, e := range l {
		rows = append(rows, e.row)
	}
	return rows
}
