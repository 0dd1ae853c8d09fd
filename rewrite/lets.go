package rewrite

import (
	"slices"

	"custos/api"
	"custos/ast"
)

// place is where a Pred stands that is not told within the formula it was looked for in.
type place struct {
	pred api.Formula
	// told are the names that the Lets and LetPasts tell of which it stands in a part, be it told there or not.
	told []string
}

// unasked is of a Let or LetPast whose predicate nobody asks for.
func (f part) unasked() (api.Formula, bool) {
	if !isLet(api.Formula(f)) || len(f.asked()) > 0 {
		return api.Formula{}, false
	}
	return f.Subs[1], true
}

// inlined is of a Let whose predicate is asked for once, just as its first part tells it. Of what is deeper than a formula may be ast.Depth tells 0.
func (f part) inlined() (api.Formula, bool) {
	if f.Kind != api.Let || f.Subs[0].Kind == api.Not {
		return api.Formula{}, false
	}
	l := f.asked()
	if len(l) != 1 || !areVars(l[0].pred.Terms, f.Vars) || l[0].hides(f.Subs[0]) {
		return api.Formula{}, false
	}
	g := put(f.Subs[1], f.Name, f.Subs[0])
	if depth := ast.Depth(g); depth == 0 || depth > ast.Depth(api.Formula(f)) {
		return api.Formula{}, false
	}
	return g, true
}

// asked are the Preds of the second part that are told by the Let or LetPast.
func (f part) asked() []place {
	return slices.DeleteFunc(open(f.Subs[1]), func(p place) bool { return p.pred.Name != f.Name })
}

// hides is whether a Pred of a formula could be told by another one, if the formula stood at that place.
func (p place) hides(f api.Formula) bool {
	return slices.ContainsFunc(open(f), func(q place) bool { return slices.Contains(p.told, q.pred.Name) })
}

// open are the Preds of a formula that are not told within it.
func open(f api.Formula) []place {
	if f.Kind == api.Pred {
		return []place{{pred: f}}
	}
	var l []place
	for i, g := range partsOf(f) {
		for _, p := range open(g) {
			if tells(f, i, p.pred.Name) {
				continue
			}
			if isLet(f) {
				p.told = append(p.told, f.Name)
			}
			l = append(l, p)
		}
	}
	return l
}

// put is a formula with another one in the place of each of its Preds of a name that are not told within it.
func put(f api.Formula, name string, g api.Formula) api.Formula {
	if f.Kind == api.Pred && f.Name == name {
		return g
	}
	parts := partsOf(f)
	for i, h := range parts {
		if !tells(f, i, name) {
			parts[i] = put(h, name, g)
		}
	}
	return withParts(f, parts)
}

// tells is whether a formula tells a predicate of that name in its part of that number.
func tells(f api.Formula, i int, name string) bool {
	return isLet(f) && f.Name == name && (f.Kind == api.LetPast || i == 1)
}

func isLet(f api.Formula) bool { return f.Kind == api.Let || f.Kind == api.LetPast }

func areVars(l []api.Term, names []string) bool {
	return slices.EqualFunc(l, names, func(t api.Term, x string) bool { return t.Kind == api.Var && t.Name == x })
}
