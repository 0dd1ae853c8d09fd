package rewrite

import (
	"slices"

	"custos/api"
	"custos/ast"
	"custos/static"
)

func (f part) withoutTrue() (api.Formula, bool) { return f.without(api.And, api.True) }

func (f part) withoutFalse() (api.Formula, bool) { return f.without(api.Or, api.False) }

// without is the other one of two parts, if one is of a kind that changes nothing there.
func (f part) without(kind, nothing int) (api.Formula, bool) {
	if f.Kind != kind {
		return api.Formula{}, false
	}
	for i, g := range f.Subs {
		if g.Kind == nothing {
			return f.Subs[1-i], true
		}
	}
	return api.Formula{}, false
}

func (f part) saidOnce() (api.Formula, bool) {
	if f.Kind != api.And && f.Kind != api.Or || !ast.Same(f.Subs[0], f.Subs[1]) {
		return api.Formula{}, false
	}
	return f.Subs[0], true
}

func (f part) decided() (api.Formula, bool) {
	if f.Kind != api.Not {
		return api.Formula{}, false
	}
	switch f.Subs[0].Kind {
	case api.True:
		return api.Formula{Kind: api.False}, true
	case api.False:
		return api.Formula{Kind: api.True}, true
	}
	return api.Formula{}, false
}

// merged need not count the variables: in an accepted formula all of them are the innermost part's, which has at most MaxVars, and none is there twice.
func (f part) merged() (api.Formula, bool) {
	if f.Kind != api.Exists || f.Subs[0].Kind != api.Exists {
		return api.Formula{}, false
	}
	g := f.Subs[0]
	g.Vars = slices.Concat(f.Vars, g.Vars)
	return g, true
}

func (f part) alone() (api.Formula, bool) {
	if f.Kind != api.Join || len(f.Subs) != 1 {
		return api.Formula{}, false
	}
	return f.Subs[0], true
}

func (f part) affirmed() (api.Formula, bool) {
	if f.Kind != api.Not || f.Subs[0].Kind != api.Not {
		return api.Formula{}, false
	}
	return f.Subs[0].Subs[0], true
}

// joined is of an And that has three pieces at least, and of a Join that has another join for a part.
func (f part) joined() (api.Formula, bool) {
	l := pieces(api.Formula(f))
	nested := f.Kind == api.And && len(l) > 2 || f.Kind == api.Join && slices.ContainsFunc(f.Subs, isJoin)
	var first, negations []api.Formula
	for _, g := range l {
		if g.Kind == api.Not {
			negations = append(negations, g)
		} else {
			first = append(first, g)
		}
	}
	if !nested || len(first) == 0 {
		return api.Formula{}, false
	}
	return api.Formula{Kind: api.Join, Subs: append(first, negations...)}, true
}

// pieces are what a Join may have in the place of a formula.
func pieces(f api.Formula) []api.Formula {
	if !isJoin(f) {
		return []api.Formula{f}
	}
	var l []api.Formula
	for _, g := range f.Subs {
		l = append(l, pieces(g)...)
	}
	return l
}

// isJoin is whether a formula is a Join, or an And that means what a Join of its parts does.
func isJoin(f api.Formula) bool {
	if f.Kind != api.And {
		return f.Kind == api.Join
	}
	c := static.Case(f.Subs[0], f.Subs[1])
	return c == 1 || c == 2
}
