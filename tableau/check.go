package tableau

import (
	"slices"

	"triforium/api"
	"triforium/binds"
	"triforium/term"
	"triforium/types"
)

// check looks whether a tableau refutes formulas, or leaves with its error.
func (g *ground) check(l []api.Term, t *Tree) {
	left := MaxNodes
	if !t.count(&left) {
		panic(api.ErrCount)
	}
	g.node(slices.Clip(slices.Clone(l)), t)
}

// count takes the nodes of a tree from a number; false, if there are more.
func (t *Tree) count(left *int) bool {
	*left--
	if *left < 0 {
		return false
	}
	for i := range t.Kids {
		if !t.Kids[i].count(left) {
			return false
		}
	}
	return true
}

// fail leaves where a tableau is not as its rules want.
func fail() { panic(ErrTree) }

// want leaves, if something that the rules of tableaux want is not so.
func want(ok bool) {
	if !ok {
		fail()
	}
}

// node looks whether a node is right for a branch.
func (g *ground) node(branch []api.Term, t *Tree) {
	want(t.At >= 0 && t.At < len(branch))
	quantifier := t.Kind == Gamma || t.Kind == Delta
	want(quantifier || term.Equal(t.Term, api.Term{}))
	if t.Kind == Close {
		want(len(t.Kids) == 0 && closes(branch, t.At, t.Other))
		return
	}
	s := shapeOf(branch[t.At])
	want(t.Other == 0 && s.kind != 0 && s.kind == kind(t.Kind) && len(t.Kids) == kids(s.kind))
	for i, more := range g.added(branch, s, t) {
		g.node(g.grown(branch, more), &t.Kids[i])
	}
}

// kids returns how many Kids a node of a kind has that does not close a branch.
func kids(k kind) int {
	if k == Beta {
		return 2
	}
	return 1
}

// closes reports whether two formulas of a branch close it.
func closes(branch []api.Term, at, other int) bool {
	if other < 0 || other >= len(branch) {
		return false
	}
	if at == other {
		_, ok := isWrong(branch[at])
		return ok
	}
	return isNot(branch[at], branch[other]) || isNot(branch[other], branch[at])
}

// added returns what a node puts on the branches of its Kids.
func (g *ground) added(branch []api.Term, s shape, t *Tree) [][]api.Term {
	switch s.kind {
	case Beta:
		return [][]api.Term{s.parts[:1], s.parts[1:]}
	case Gamma:
		g.wantTerm(branch, s.parts[0].Type, t.Term)
		return [][]api.Term{{g.instance(s, t)}}
	case Delta:
		g.wantTerm(nil, s.parts[0].Type, t.Term)
		want(t.Term.Op == api.Free)
		want(!slices.Contains(names(branch), t.Term.Name))
		return [][]api.Term{{g.instance(s, t)}}
	}
	return [][]api.Term{s.parts}
}

// wantTerm looks whether a term is right, of a type, and has variables as the formulas of a branch have them.
func (g *ground) wantTerm(branch []api.Term, typ api.Type, t api.Term) {
	u, e := g.signature.Check(t)
	want(e == api.OK && types.Equal(u, typ))
	want(binds.Differ(append(slices.Clone(branch), t)) == api.OK)
}

// instance returns the instance that a node puts on its branch.
func (g *ground) instance(s shape, t *Tree) api.Term {
	r, ok := instance(s.parts[0], t.Term)
	want(ok)
	return r
}

// grown returns a branch with more formulas, if it may have them.
func (g *ground) grown(branch, more []api.Term) []api.Term {
	want(fits(branch, more))
	return append(slices.Clip(branch), more...)
}

// fits reports whether a branch may have more formulas.
func fits(branch, more []api.Term) bool {
	for _, t := range more {
		if nodes, depth := term.Size(t); nodes > maxFormNodes || depth > maxFormDepth {
			return false
		}
	}
	return len(branch)+len(more) <= MaxForms
}

// names returns the names of the Frees of some formulas.
func names(l []api.Term) []string {
	var r []string
	for _, t := range l {
		for _, x := range term.Frees(t) {
			r = append(r, x.Name)
		}
	}
	return r
}
