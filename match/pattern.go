package match

import (
	"slices"

	"custos/api"
	"custos/ast"
)

// now is the point that comes: its number, and the tables of the tests there.
type now struct {
	at    int
	tests []api.Table
}

// pattern is a part of a regex on its way through the log. At each point it is asked once what arrives there, and is
// fed then, once or more often, with the ends of what stands ahead of it: so all beginnings are on their way at one time.
type pattern interface {
	// arrive tells the ends at this point of what was fed at the points ahead.
	arrive(p now, w window) []end
	// feed takes ends at this point, and tells those of the matches that begin here and end here.
	feed(p now, in []end) []end
	// kept hands on each list of ends that is kept for the points behind.
	kept(visit func(l []end))
	clone() pattern
}

// onward is Any: what is fed arrives at the next point.
type onward struct{ next []end }

func (o *onward) arrive(_ now, w window) []end {
	arrived := w.moved(o.next)
	o.next = nil
	return arrived
}

func (o *onward) feed(_ now, in []end) []end {
	o.next = union(o.next, in)
	return nil
}

func (o *onward) kept(visit func(l []end)) { visit(o.next) }

func (o *onward) clone() pattern { return &onward{o.next} }

// test is Test: nothing is on its way.
type test struct {
	number int
	pairing
}

func (t test) arrive(now, window) []end { return nil }

func (t test) feed(p now, in []end) []end { return t.join(in, p.tests[t.number].Rows) }

func (t test) kept(func(l []end)) {}

func (t test) clone() pattern { return t }

// either is Alt.
type either struct{ one, other pattern }

func (e *either) arrive(p now, w window) []end {
	return union(e.one.arrive(p, w), e.other.arrive(p, w))
}

func (e *either) feed(p now, in []end) []end { return union(e.one.feed(p, in), e.other.feed(p, in)) }

func (e *either) kept(visit func(l []end)) {
	e.one.kept(visit)
	e.other.kept(visit)
}

func (e *either) clone() pattern { return &either{e.one.clone(), e.other.clone()} }

// chain is Seq: the ends of the first part are fed to the second one.
type chain struct{ first, second pattern }

func (c *chain) arrive(p now, w window) []end {
	between := c.first.arrive(p, w)
	arrived := c.second.arrive(p, w)
	return union(arrived, c.second.feed(p, between))
}

func (c *chain) feed(p now, in []end) []end {
	if len(in) == 0 {
		return nil
	}
	return c.second.feed(p, c.first.feed(p, in))
}

func (c *chain) kept(visit func(l []end)) {
	c.first.kept(visit)
	c.second.kept(visit)
}

func (c *chain) clone() pattern { return &chain{c.first.clone(), c.second.clone()} }

// again is Star. Its part has no variables: so what of a round ends where it begins is there already.
type again struct{ round pattern }

func (a *again) arrive(p now, w window) []end {
	arrived := a.round.arrive(p, w)
	a.round.feed(p, arrived)
	return arrived
}

func (a *again) feed(p now, in []end) []end {
	a.round.feed(p, in)
	return in
}

func (a *again) kept(visit func(l []end)) { a.round.kept(visit) }

func (a *again) clone() pattern { return &again{a.round.clone()} }

// builder makes patterns. Tests are numbered as they are met, which is in the order of the text.
type builder struct{ tests int }

// pattern is that of a regex which is fed with rows of the given variables.
func (b *builder) pattern(r api.Regex, given []string) pattern {
	switch r.Kind {
	case api.Any:
		return &onward{}
	case api.Test:
		b.tests++
		return test{b.tests - 1, paired(given, ast.Free(r.Test[0]))}
	case api.Alt:
		return &either{b.pattern(r.Subs[0], given), b.pattern(r.Subs[1], given)}
	case api.Star:
		return &again{b.pattern(r.Subs[0], given)}
	}
	first, second := r.Subs[0], r.Subs[1]
	vars := varsOf(first)
	if len(given) > 0 && !areAmong(vars, given) && !isSure(second) {
		return b.apart(r, given)
	}
	return &chain{b.pattern(first, given), b.pattern(second, varsOfBoth(given, vars))}
}

// isSure is whether a regex has a match that ends where it begins, whatever its tests tell. It has no variables then.
func isSure(r api.Regex) bool {
	switch r.Kind {
	case api.Star:
		return true
	case api.Alt:
		return isSure(r.Subs[0]) || isSure(r.Subs[1])
	case api.Seq:
		return isSure(r.Subs[0]) && isSure(r.Subs[1])
	}
	return false
}

// varsOf are the variables of a regex's tests, each once, rising.
func varsOf(r api.Regex) []string {
	var vars []string
	for _, f := range Tests(r) {
		vars = varsOfBoth(vars, ast.Free(f))
	}
	return vars
}

func areAmong(vars, others []string) bool {
	return !slices.ContainsFunc(vars, func(v string) bool { return !slices.Contains(others, v) })
}
