package theory

import (
	"triforium/api"
	"triforium/term"
	"triforium/types"
)

// unfolder replaces constants by what they are, and panics as soon as a size is too great.
type unfolder struct {
	*opened
	nodes int // of the whole term so far
}

// unfolded returns a term of the theory without constants that a definition fits.
func (o *opened) unfolded(x api.Term) (r api.Term, e api.Errno) {
	defer func() {
		if y := recover(); y != nil {
			r, e = api.Term{}, failure(y)
		}
	}()
	u := unfolder{opened: o}
	u.nodes, _ = term.Size(x)
	return term.Lift(u.term(&x, 1), 0), api.OK
}

// failure returns the error with which a function was left.
func failure(x any) api.Errno {
	if e, ok := x.(api.Errno); ok {
		return e
	}
	return api.ErrTheory
}

// term unfolds a term at a depth, from the left: what is behind it does not change its own uses.
func (u *unfolder) term(t *api.Term, depth int) api.Term {
	if t.Op == api.Const {
		if next, ok := u.step(t, depth); ok {
			return u.term(&next, depth)
		}
		return *t
	}
	r := *t
	r.Kids = make([]api.Term, len(t.Kids))
	for i := range t.Kids {
		r.Kids[i] = u.term(&t.Kids[i], depth+1)
	}
	return r
}

// step returns the right side of the definition that fits a constant, if there is one.
func (u *unfolder) step(t *api.Term, depth int) (api.Term, bool) {
	for _, i := range u.of[t.Name] {
		d := &u.definitions[i]
		l, e := types.MatchIn(u.signature.Algebra(), d.at, t.Type, nil)
		if e != api.OK {
			continue
		}
		nodes, deep := term.Size(d.right)
		u.nodes += nodes - 1
		if u.nodes > api.MaxTerm {
			panic(api.ErrCount)
		}
		if depth-1+deep > api.MaxDepth {
			panic(api.ErrDepth)
		}
		return instantiated(l, &d.right), true
	}
	return api.Term{}, false
}

// instantiated returns a right side with types for its type variables. Types can double with each step, so each one is measured ahead.
func instantiated(l []api.TypeBind, t *api.Term) api.Term {
	for n := range term.Nodes(t) {
		if e := types.AppliedError(l, &n.Type); e != api.OK {
			panic(e)
		}
	}
	return term.Apply(api.Inst{Types: l}, *t)
}
