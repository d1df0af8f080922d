package resolve

import (
	"slices"

	"triforium/api"
	"triforium/derive"
	"triforium/kernel"
	"triforium/term"
	"triforium/types"
)

// maxBinds is how many variables of a kind can be raised.
const maxBinds = 100

// behind returns the index behind those of a theorem.
func behind(th kernel.Theorem) int {
	next := 0
	for _, t := range derive.Parts(th) {
		next = max(next, term.MaxIndex(t)+1)
	}
	return next
}

// raised returns a rule whose indices are greater by a number, and whose Vars are functions of parameters, which they are applied to.
func raised(rule kernel.Theorem, n int, params []piece) kernel.Theorem {
	var i api.Inst
	vars, typeVars := derive.Variables(rule)
	for _, v := range typeVars {
		if n > 0 {
			i.Types = append(i.Types, api.TypeBind{Name: v.Name, Index: v.Index, To: types.Raise(v, n)})
		}
	}
	for _, v := range vars {
		if n > 0 || len(params) > 0 {
			to := term.Raise(v, n)
			for _, p := range slices.Backward(params) {
				to.Type = types.Fun(p.term.Type, to.Type)
			}
			for _, p := range params {
				to = app(to, p.term)
			}
			i.Terms = append(i.Terms, api.TermBind{Name: v.Name, Index: v.Num, To: to})
		}
	}
	if len(i.Types)+len(i.Terms) == 0 {
		return rule
	}
	return derive.Must(kernel.Instantiate(i, rule))
}

// clash reports whether the subgoal has parameters, of which a hypothesis of the rule would become dependent.
func (c *call) clash() bool {
	schematic := func(t api.Term) bool { return len(term.Vars(t)) > 0 }
	return slices.ContainsFunc(c.rule.Hyps(), schematic) && len(Split(c.subgoal()).Params) > 0
}

// subgoal returns the subgoal of the state.
func (c *call) subgoal() api.Term {
	l, _ := term.Strip(c.state.Prop())
	return l[c.at]
}

// Lift returns a rule, raised above a state, lifted over the parameters and assumptions of a subgoal.
func Lift(rule kernel.Theorem, at int, state kernel.Theorem) (th kernel.Theorem, e api.Errno) {
	defer func() {
		if x := recover(); x != nil {
			th, e = kernel.Theorem{}, derive.Failure(x)
		}
	}()
	c, e := newCall(rule, at, state, Rule, 0, 0)
	if e != api.OK {
		return kernel.Theorem{}, e
	}
	n := behind(state)
	vars, typeVars := derive.Variables(rule)
	if len(vars) > maxBinds || n > 0 && len(typeVars) > maxBinds {
		return kernel.Theorem{}, api.ErrCount
	}
	m := newMaker(c.world, rule, state)
	l, _ := m.open(c.subgoal())
	return m.lifted(liftable(c.rule, n, params(l)), flat(l)), api.OK
}

// liftable returns the rule raised over parameters. Where a type of functions of these is too large for a bind, it is so for the result.
func liftable(rule kernel.Theorem, n int, l []piece) kernel.Theorem {
	defer func() {
		if x := recover(); x != nil {
			e := derive.Failure(x)
			if e == api.ErrCount || e == api.ErrDepth {
				e = api.ErrLarge
			}
			panic(e)
		}
	}()
	return raised(rule, n, l)
}

// lifted returns a rule, raised over the parameters among flat pieces, lifted over all of them.
func (m *maker) lifted(rule kernel.Theorem, l []piece) kernel.Theorem {
	from, to := term.Strip(rule.Prop())
	wantLiftable(from, l)
	var all []api.Term
	for _, a := range from {
		all = append(all, closed(l, a))
	}
	whole := closed(l, to)
	for _, a := range slices.Backward(all) {
		whole = imp(a, whole)
	}
	if tooLarge(&whole) {
		panic(api.ErrLarge)
	}
	hyps := rule.Hyps()
	var th kernel.Theorem
	if len(hyps)+len(all)+len(l) <= api.MaxHyps {
		th = derive.Intro(all, intro(l, m.solved(rule, all, l)))
	} else { // what is assumed on the way would be too much beside these
		behind := intro(l, rule)
		again := m.elim(l, derive.Assume(m.World, behind.Prop()))
		th = derive.Intro(all, intro(l, m.solved(again, all, l)))
		th = derive.Elim(derive.Must(kernel.ImpIntro(behind.Prop(), th)), behind)
	}
	return derive.Named(derive.WithHyps(th, hyps), whole)
}

// solved returns the conclusion of a rule, whose lifted premises are assumed, and the assumptions among flat pieces.
func (m *maker) solved(rule kernel.Theorem, lifted []api.Term, l []piece) kernel.Theorem {
	for _, a := range lifted {
		rule = derive.Elim(rule, m.elim(l, derive.Assume(m.World, a)))
	}
	return rule
}

// wantLiftable looks whether premises, each one behind all assumptions among pieces, are not far too large to be made.
func wantLiftable(from []api.Term, l []piece) {
	nodes, more := 0, 0
	for _, p := range hyps(l) {
		n, _ := term.Size(p.term)
		more += n
	}
	for _, a := range from {
		n, _ := term.Size(a)
		nodes += n + more
	}
	if nodes > api.MaxTerm {
		panic(api.ErrLarge)
	}
}

// tooLarge reports whether a theorem cannot state a proposition, since it, or a type in it, is too large.
func tooLarge(t *api.Term) bool {
	if term.SizeError(t) != api.OK {
		return true
	}
	for n := range term.Nodes(t) {
		if types.SizeError(&n.Type) != api.OK {
			return true
		}
	}
	return false
}
