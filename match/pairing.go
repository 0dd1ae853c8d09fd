package match

import (
	"slices"

	"custos/api"
)

// key is a row's values at some columns, as a thing that a map can be asked by; no place behind them is used.
type key [api.MaxVars]api.Value

// pairing is how rows of some variables are joined with rows of others.
type pairing struct {
	// Where the variables that both have stand in the one and in the other.
	ours, theirs []int
	// For each variable of both, rising: its column in our row, or, from the number of ours on, in the other one behind it.
	columns []int
	size    int // how many variables are ours
}

func paired(vars, others []string) pairing {
	p := pairing{size: len(vars)}
	for c, v := range vars {
		if d := slices.Index(others, v); d >= 0 {
			p.ours = append(p.ours, c)
			p.theirs = append(p.theirs, d)
		}
	}
	for _, v := range varsOfBoth(vars, others) {
		c := slices.Index(vars, v)
		if c < 0 {
			c = len(vars) + slices.Index(others, v)
		}
		p.columns = append(p.columns, c)
	}
	return p
}

// varsOfBoth are the variables of both, each once, rising.
func varsOfBoth(a, b []string) []string {
	all := slices.Concat(a, b)
	slices.Sort(all)
	return slices.Compact(all)
}

func (p pairing) grows() bool { return len(p.columns) > p.size }

// fit is an end, and a row that fits to its own.
type fit struct {
	end
	other []api.Value
}

// join is the ends of a list joined with rows.
func (p pairing) join(l []end, rows [][]api.Value) []end {
	var all []end
	for _, f := range p.fits(l, rows) {
		all = append(all, end{p.row(f.row, f.other), f.from})
	}
	slices.SortFunc(all, byRow)
	return all
}

// within is those ends of a list to which a row fits. Rows that fit to the same ends are not all asked, as there may be
// far more of those that fit than there are of either.
func (p pairing) within(l []end, rows [][]api.Value) []end {
	seen := make(map[key]struct{})
	var some [][]api.Value
	for _, row := range rows {
		k := keyAt(row, p.theirs)
		if _, met := seen[k]; !met {
			seen[k] = struct{}{}
			some = append(some, row)
		}
	}
	var fitting []end
	for _, f := range p.fits(l, some) {
		fitting = append(fitting, f.end)
	}
	slices.SortFunc(fitting, byRow)
	return fitting
}

// fits are all ends with all rows that fit, in any order.
func (p pairing) fits(l []end, rows [][]api.Value) []fit {
	if len(l) == 0 || len(rows) == 0 {
		return nil
	}
	if p.leads() && len(rows) < len(l)/8 {
		return p.search(l, rows)
	}
	return p.lookUp(l, rows)
}

// leads is whether the variables that both have stand first in our rows, by which a list of ends is in order then.
func (p pairing) leads() bool {
	for i, c := range p.ours {
		if c != i {
			return false
		}
	}
	return true
}

// search is for few rows and many ends: of these it goes through those alone to which a row fits.
func (p pairing) search(l []end, rows [][]api.Value) []fit {
	var found []fit
	for _, row := range rows {
		var wanted end
		for _, c := range p.theirs {
			wanted.row = append(wanted.row, row[c])
		}
		for _, e := range l[standingAhead(l, wanted):] {
			if !slices.Equal(e.row[:len(wanted.row)], wanted.row) {
				break
			}
			found = append(found, fit{e, row})
		}
	}
	return found
}

// lookUp goes through all of both.
func (p pairing) lookUp(l []end, rows [][]api.Value) []fit {
	index := make(map[key][][]api.Value)
	if len(p.theirs) == 0 {
		index[key{}] = rows
	} else {
		for _, row := range rows {
			k := keyAt(row, p.theirs)
			index[k] = append(index[k], row)
		}
	}
	var found []fit
	for _, e := range l {
		for _, row := range index[keyAt(e.row, p.ours)] {
			found = append(found, fit{e, row})
		}
	}
	return found
}

// row is of two that fit. Where the other one adds nothing it is our own; else it is new, as the other one may be the caller's.
func (p pairing) row(our, other []api.Value) []api.Value {
	if !p.grows() {
		return our
	}
	both := make([]api.Value, len(p.columns))
	for i, c := range p.columns {
		if c < p.size {
			both[i] = our[c]
		} else {
			both[i] = other[c-p.size]
		}
	}
	return both
}

func keyAt(row []api.Value, columns []int) key {
	var k key
	for i, c := range columns {
		k[i] = row[c]
	}
	return k
}
