package resolve

import (
	"slices"

	"triforium/api"
	"triforium/term"
)

// clashes reports whether two terms have different constants or fixed variables at a place where no instance changes them, so that nothing makes them equal. It only spares unifications.
func clashes(a, b *api.Term) bool {
	for a.Op == api.Abs && b.Op == api.Abs {
		a, b = &a.Kids[0], &b.Kids[0]
	}
	f, x := spine(a)
	g, y := spine(b)
	if !isFixed(f) || !isFixed(g) {
		return false
	}
	if f.Op != g.Op || f.Name != g.Name {
		return true
	}
	if len(x) != len(y) {
		return false
	}
	for i := range x {
		if clashes(x[i], y[i]) {
			return true
		}
	}
	return false
}

// spine returns the head of a term and its arguments, which share memory with it.
func spine(t *api.Term) (*api.Term, []*api.Term) {
	var l []*api.Term
	for t.Op == api.App {
		l = append(l, &t.Kids[1])
		t = &t.Kids[0]
	}
	slices.Reverse(l)
	return t, l
}

// isFixed reports whether a term is a constant or a fixed variable.
func isFixed(t *api.Term) bool { return t.Op == api.Const || t.Op == api.Free }

// hopeless reports whether no resolvent can be, as far as the terms show it that are to be made equal.
func (c *call) hopeless() bool {
	s := Split(c.subgoal())
	fits := func(a api.Term) func(h api.Term) bool {
		return func(h api.Term) bool { return !clashes(&a, &h) }
	}
	if c.kind == byAssumption {
		return !slices.ContainsFunc(s.Hyps, fits(s.Concl))
	}
	from, to := term.Strip(c.rule.Prop())
	if c.kind != Drule && clashes(&to, &s.Concl) {
		return true
	}
	return c.kind != Rule && (len(from) == 0 || !slices.ContainsFunc(s.Hyps, fits(from[0])))
}
