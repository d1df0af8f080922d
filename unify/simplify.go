package unify

import (
	"slices"

	"triforium/api"
	"triforium/binds"
	"triforium/pattern"
)

// maxNodes is how many nodes the rigid side of a pair may have that is looked at as a whole.
const maxNodes = 1 << 20

// work has the pairs that are not yet simplified, and what is left.
type work struct {
	state *binds.State
	todo  []pair
	left  []pair
}

// simplify returns the pairs that are left of some, where there is no choice; false, if the state fails.
func simplify(s *binds.State, todo []pair) (left []pair, ok bool) {
	w := work{state: s, todo: todo}
	ok = try(func() {
		for len(w.todo) > 0 {
			if len(w.todo)+len(w.left) > MaxPairs {
				panic(api.ErrLarge)
			}
			p := w.todo[0]
			w.todo = w.todo[1:]
			w.take(p)
		}
	})
	return w.left, ok
}

// take simplifies a pair.
func (w *work) take(p pair) {
	s := w.state
	s.Begin()
	a, b := s.Spine(p.a), s.Spine(p.b)
	if a.Head.Op == api.Abs || b.Head.Op == api.Abs {
		w.bodies(p, a, b)
		return
	}
	if a.Head.Op != api.Var && b.Head.Op != api.Var {
		s.Heads(a, b)
		var parts []pair
		for i := range a.Args {
			parts = append(parts, pair{a.Args[i], b.Args[i], p.loose})
		}
		w.todo = slices.Concat(parts, w.todo)
		return
	}
	switch w.solve(a, b) {
	case bound:
		w.todo = slices.Concat(w.left, w.todo)
		w.left = nil
	case stays:
		w.left = append(w.left, pair{a.Term(), b.Term(), p.loose})
	}
}

// What becomes of a pair with a flexible side.
const (
	equal = 0 // its sides are the same
	bound = 1 // they are, behind a bind
	stays = 2 // it is left
)

// bodies puts the pair of the bodies of two terms, one of which is an abstraction, in the place of their pair.
func (w *work) bodies(p pair, a, b binds.Spine) {
	typ := a.Head.Type
	if a.Head.Op != api.Abs {
		typ = b.Head.Type
	}
	inner := pair{w.state.Body(a), w.state.Body(b), append(slices.Clone(p.loose), typ)}
	w.todo = slices.Concat([]pair{inner}, w.todo)
}

// solve unifies a pair with a flexible side, if this is simple, and the other side, too, or a pattern.
func (w *work) solve(a, b binds.Spine) int {
	s := w.state
	x, simple := w.simple(a)
	y, other := w.simple(b)
	switch {
	case simple && other:
		if s.Flexible(a.Head, x, b.Head, y) {
			return bound
		}
		return equal
	case simple && w.isPattern(b):
		s.Solve(a.Head, x, b.Term())
		return bound
	case other && w.isPattern(a):
		s.Solve(b.Head, y, a.Term())
		return bound
	}
	return stays
}

// simple returns the Bounds to which the head of a term is applied, if it is flexible and simple.
func (w *work) simple(p binds.Spine) ([]int, bool) {
	if p.Head.Op != api.Var {
		return nil, false
	}
	return w.state.Bounds(p)
}

// isPattern reports whether a term is rigid, and a pattern as the binds make it.
func (w *work) isPattern(p binds.Spine) bool {
	return p.Head.Op != api.Var && pattern.Is(w.state.Normal(p.Term(), maxNodes))
}
