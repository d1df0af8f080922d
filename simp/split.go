package simp

import (
	"slices"

	"triforium/api"
	"triforium/derive"
	"triforium/equate"
	"triforium/hol"
	"triforium/kernel"
	"triforium/resolve"
	"triforium/term"
)

// conditional returns the arguments of a term that is an If.
func conditional(t *api.Term) ([]api.Term, bool) {
	head, args := term.Spine(*t)
	return args, head.Op == api.Const && head.Name == "If" && len(args) == 3
}

// split returns the equation that Split makes of a term of the type bool; false, if it has no If for this.
func (g *ground) split(p api.Term) (equate.Equation, bool) {
	for n := range term.Nodes(&p) {
		if args, ok := conditional(n); ok && term.Closed(*n) {
			return derive.Limited(func() equate.Equation { return g.splitAt(p, *n, args) }), true
		}
	}
	return equate.Equation{}, false
}

// splitAt returns the equation for an If with its arguments.
func (g *ground) splitAt(p, first api.Term, args []api.Term) equate.Equation {
	typ, _ := term.TypeOf(first)
	f := api.Term{Op: api.Abs, Name: "x", Type: typ, Kids: []api.Term{abstracted(&p, &first, 0)}}
	th := g.library.With("if_split", typ, hol.For("P", f), hol.For("Q", args[0]), hol.For("x", args[1]), hol.For("y", args[2]))
	_, sides := kindOf(derive.Want(untruth(th.Prop())))
	th = g.meta(sides[0], sides[1], th)
	q := g.Beta(sides[0]).Turned(sides[0]).Then(equate.Equation{Right: sides[1], Th: th})
	return q.Then(g.cases(sides[1]))
}

// untruth is hol.Untruth with an error.
func untruth(t api.Term) (api.Term, api.Errno) {
	if p, ok := hol.Untruth(t); ok {
		return p, api.OK
	}
	return api.Term{}, api.ErrFail
}

// cases returns the equation of And (Implies q (f x)) (Implies r (f y)) and what it becomes by the steps of f.
func (g *ground) cases(t api.Term) equate.Equation {
	_, both := term.Spine(t)
	done := equate.Same(t.Kids[0].Kids[0])
	for _, x := range both {
		done = g.Applied(done, g.Applied(equate.Same(x.Kids[0]), g.Beta(x.Kids[1])))
	}
	return done
}

// abstracted returns a term with the variable of an abstraction around it in the place of all subterms that are equal to one.
func abstracted(t, is *api.Term, around int) api.Term {
	if t.Op == is.Op && term.Equal(*t, *is) {
		return api.Term{Op: api.Bound, Num: around}
	}
	if t.Op == api.Abs {
		around++
	}
	r := *t
	r.Kids = nil
	for i := range t.Kids {
		r.Kids = append(r.Kids, abstracted(&t.Kids[i], is, around))
	}
	return r
}

// result is what Goal returns.
type result struct {
	state  kernel.Theorem
	solved bool
}

// goal simplifies a subgoal that there is.
func (m *simplifier) goal(state kernel.Theorem, at, depth int) result {
	l, _ := term.Strip(state.Prop())
	s := resolve.Split(l[at])
	params := m.parameters(s.Params)
	var more []*equation
	for _, h := range s.Hyps {
		if h = filled(h, params); !isSchematic(h) {
			more = append(more, m.equations(derive.Assume(m.world, h))...)
		}
	}
	concl := filled(s.Concl, params)
	q := m.conclusion(concl, more, depth)
	if term.Equal(q.Right, concl) {
		panic(api.ErrFail)
	}
	if isTrue(q.Right) {
		truth := m.library.With("trueI", api.Type{})
		return result{m.replaced(state, at, nil, func(kernel.Theorem) kernel.Theorem {
			return m.introduced(l[at], params, func([]kernel.Theorem) kernel.Theorem { return q.Turned(concl).Of(truth) })
		}), true}
	}
	s.Concl = q.Right
	for _, x := range params {
		s.Concl = term.Bind(x, s.Concl)
	}
	whole := resolve.Whole(s)
	return result{m.replaced(state, at, []api.Term{whole}, func(th kernel.Theorem) kernel.Theorem {
		return m.introduced(l[at], params, func(hyps []kernel.Theorem) kernel.Theorem {
			for _, x := range params {
				th = derive.Must(kernel.AllElim(x, th))
			}
			for _, h := range hyps {
				th = derive.Elim(th, h)
			}
			return q.Turned(concl).Of(th)
		})
	}), false}
}

// parameters returns new Frees for the parameters of a subgoal.
func (m *simplifier) parameters(l []api.Term) []api.Term {
	var r []api.Term
	for _, p := range l {
		x := m.variable(p.Type)
		m.take(x)
		r = append(r, x)
	}
	return r
}

// filled returns a part of a subgoal with Frees for its parameters.
func filled(t api.Term, params []api.Term) api.Term {
	for _, x := range slices.Backward(params) {
		t = term.Put(t, x)
	}
	return t
}

// conclusion simplifies a conclusion, and splits it as long as it may.
func (m *simplifier) conclusion(t api.Term, more []*equation, depth int) equate.Equation {
	fuel := m.fuel
	q := m.simplify(t, more, depth)
	for range MaxSplit {
		p, ok := hol.Untruth(q.Right)
		if !ok || isTrue(q.Right) {
			break
		}
		next, ok := m.split(p)
		if !ok {
			break
		}
		q = q.Then(m.Applied(equate.Same(q.Right.Kids[0]), next))
		m.fuel = fuel
		q = q.Then(m.simplify(q.Right, more, depth))
	}
	return q
}

// replaced returns a state in which new subgoals stand in the place of one, which a function proves of the new one, if there is one.
func (m *simplifier) replaced(state kernel.Theorem, at int, news []api.Term, prove func(kernel.Theorem) kernel.Theorem) kernel.Theorem {
	l, _ := term.Strip(state.Prop())
	return derive.Through(m.world, []kernel.Theorem{state}, func(from []kernel.Theorem) kernel.Theorem {
		th := from[0]
		for _, a := range l[:at] {
			th = derive.Elim(th, derive.Assume(m.world, a))
		}
		var whole kernel.Theorem
		if len(news) > 0 {
			whole = derive.Assume(m.world, news[0])
		}
		return derive.Intro(slices.Concat(l[:at], news), derive.Elim(th, prove(whole)))
	})
}

// introduced returns a subgoal by its conclusion, which a function proves with Frees for the parameters of the assumptions.
func (m *simplifier) introduced(t api.Term, params []api.Term, prove func(hyps []kernel.Theorem) kernel.Theorem) kernel.Theorem {
	var hyps []kernel.Theorem
	var walk func(t api.Term, params []api.Term) kernel.Theorem
	walk = func(t api.Term, params []api.Term) kernel.Theorem {
		if a, b, ok := term.IsImp(t); ok {
			hyps = append(hyps, derive.Assume(m.world, a))
			return derive.Must(kernel.ImpIntro(a, walk(b, params)))
		}
		if f, ok := term.IsAll(t); ok {
			return derive.Must(kernel.AllIntro(params[0], walk(term.Put(f.Kids[0], params[0]), params[1:])))
		}
		return prove(hyps)
	}
	return walk(t, params)
}
