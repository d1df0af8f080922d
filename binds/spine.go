package binds

import (
	"triforium/api"
	"triforium/term"
)

// maxWork is how many nodes may be made at one time: beyond it a normal form is not to be had.
const maxWork = 1 << 22

// Spine is a term as its head shows it: an abstraction without arguments, or another head, which no bind and no argument changes, with its arguments, into which the binds are not yet put.
type Spine struct {
	Head api.Term
	Args []api.Term
}

// Term returns the term.
func (p Spine) Term() api.Term {
	t := p.Head
	for _, a := range p.Args {
		t = app(t, a)
	}
	return t
}

// app returns an application.
func app(f, a api.Term) api.Term { return api.Term{Op: api.App, Kids: []api.Term{f, a}} }

// Begin begins anew to count work.
func (s *State) Begin() { s.work = 0 }

// Spine returns a term as its head shows it.
func (s *State) Spine(t api.Term) Spine {
	var args []api.Term // the first one last
	for {
		switch {
		case t.Op == api.App:
			args = append(args, t.Kids[1])
			t = t.Kids[0]
			continue
		case t.Op == api.Abs && len(args) > 0:
			n := 0
			for t.Op == api.Abs && n < len(args) {
				t = t.Kids[0]
				n++
			}
			p := putter{state: s, args: args[len(args)-n:]}
			t = p.put(&t, 0)
			args = args[:len(args)-n]
			continue
		case t.Op == api.Var:
			if to, ok := s.terms[keyOf(&t)]; ok {
				t = to
				continue
			}
		}
		r := Spine{Head: t}
		for i := len(args) - 1; i >= 0; i-- {
			r.Args = append(r.Args, args[i])
		}
		return r
	}
}

// putter puts arguments in the place of the variables of abstractions around a body.
type putter struct {
	state *State
	args  []api.Term // that of the innermost abstraction first
}

// put returns a part of the body with so many abstractions around it.
func (p *putter) put(t *api.Term, around int) api.Term {
	if !loose(t, around) {
		return *t
	}
	p.state.count(1)
	if t.Op == api.Bound {
		if i := t.Num - around; i < len(p.args) {
			return p.state.lifted(&p.args[i], around, 0)
		}
		r := *t
		r.Num -= len(p.args)
		return r
	}
	if t.Op == api.Abs {
		around++
	}
	r := *t
	r.Kids = make([]api.Term, len(t.Kids))
	for i := range t.Kids {
		r.Kids[i] = p.put(&t.Kids[i], around)
	}
	return r
}

// count counts nodes that are made.
func (s *State) count(nodes int) {
	s.work += nodes
	if s.work > maxWork {
		panic(api.ErrLarge)
	}
}

// loose reports whether a term has a Bound that is loose with so many abstractions around it.
func loose(t *api.Term, around int) bool {
	if t.Op == api.Bound {
		return t.Num >= around
	}
	if t.Op == api.Abs {
		around++
	}
	for i := range t.Kids {
		if loose(&t.Kids[i], around) {
			return true
		}
	}
	return false
}

// Lift returns a term with one abstraction more around it.
func (s *State) Lift(t api.Term) api.Term { return s.lifted(&t, 1, 0) }

// lifted adds a number to the Bounds of a term that are loose with so many abstractions around it.
func (s *State) lifted(t *api.Term, n, around int) api.Term {
	if n == 0 || !loose(t, around) {
		return *t
	}
	s.count(1)
	r := *t
	if t.Op == api.Bound {
		r.Num += n
		return r
	}
	if t.Op == api.Abs {
		around++
	}
	r.Kids = make([]api.Term, len(t.Kids))
	for i := range t.Kids {
		r.Kids[i] = s.lifted(&t.Kids[i], n, around)
	}
	return r
}

// Normal returns the beta normal form of a term, as the binds make it; it leaves with api.ErrLarge above a number of nodes.
func (s *State) Normal(t api.Term, most int) api.Term {
	s.Begin()
	n := normalizer{state: s, left: most}
	return n.normal(&t)
}

// normalizer makes normal forms, and counts their nodes.
type normalizer struct {
	state *State
	left  int
}

// take counts a node of what is made.
func (n *normalizer) take() {
	n.left--
	if n.left < 0 {
		panic(api.ErrLarge)
	}
}

// normal returns the normal form of a term.
func (n *normalizer) normal(t *api.Term) api.Term {
	if n.state.isNormal(t) {
		for range term.Nodes(t) {
			n.take()
		}
		return *t
	}
	p := n.state.Spine(*t)
	n.state.count(1)
	n.take()
	r := p.Head
	if r.Op == api.Abs {
		r.Kids = []api.Term{n.normal(&p.Head.Kids[0])}
		return r
	}
	for i := range p.Args {
		n.take()
		r = app(r, n.normal(&p.Args[i]))
	}
	return r
}

// isNormal reports whether a term has no variable that is bound, and no redex.
func (s *State) isNormal(t *api.Term) bool {
	for n := range term.Nodes(t) {
		if n.Op == api.App && n.Kids[0].Op == api.Abs {
			return false
		}
		if n.Op == api.Var {
			if _, ok := s.terms[keyOf(n)]; ok {
				return false
			}
		}
	}
	return true
}

// Body returns the body of an abstraction; of another term, which is one of functions, that of the abstraction that is equal to it.
func (s *State) Body(p Spine) api.Term {
	if p.Head.Op == api.Abs {
		return p.Head.Kids[0]
	}
	return app(s.Lift(p.Term()), api.Term{Op: api.Bound})
}
