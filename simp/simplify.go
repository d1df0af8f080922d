package simp

import (
	"maps"
	"slices"

	"triforium/api"
	"triforium/conv"
	"triforium/derive"
	"triforium/equate"
	"triforium/hol"
	"triforium/kernel"
	"triforium/pattern"
	"triforium/term"
)

// simplifier simplifies terms. Its methods leave with an error by a panic.
type simplifier struct {
	*ground
	rules     []*equation
	congs     []*congruence
	procs     []procedure
	mentioned map[string]bool // the names of Frees that are not new
	fuel      int             // the attempts that are left
}

// maxNest is how many nodes of a term may be within each other, maxSteps the fuel of normal forms.
const (
	maxNest  = 50
	maxSteps = 1000
)

// take lets no Free for a variable have the name of one in some terms.
func (m *simplifier) take(l ...api.Term) {
	for _, t := range l {
		m.Take(t)
		for _, x := range term.Frees(t) {
			m.mentioned[x.Name] = true
		}
	}
}

// takeSet takes the names in the theorems and patterns of a set.
func (m *simplifier) takeSet(s Set) {
	all := slices.Concat(s.Rules, s.Congs)
	for _, p := range s.Procs {
		m.take(p.Pattern)
		all = append(all, p.Rules...)
	}
	for _, th := range all {
		m.take(derive.Parts(th)...)
	}
}

// equations returns the equations of a theorem.
func (m *simplifier) equations(th kernel.Theorem) []*equation {
	m.take(derive.Parts(th)...)
	var l []*equation
	for _, x := range m.extract(th) {
		if q, ok := m.equation(x); ok {
			l = append(l, q)
		}
	}
	return l
}

// begin begins to simplify terms.
func (m *simplifier) begin(depth, fuel int, l ...api.Term) {
	if depth < 0 || depth > MaxDepth || fuel < 0 || fuel > MaxFuel {
		panic(api.ErrRange)
	}
	m.take(l...)
	m.fuel = fuel
}

// attempt counts an attempt.
func (m *simplifier) attempt() {
	if m.fuel == 0 {
		panic(api.ErrFuel)
	}
	m.fuel--
}

// normal returns the beta-normal form of what comes out of a step.
func (m *simplifier) normal(t api.Term) api.Term {
	r, e := term.Norm(t, maxSteps)
	if e != api.OK {
		panic(e)
	}
	if nodes, depth := term.Size(r); nodes > MaxSize || depth > maxNest {
		panic(api.ErrLarge)
	}
	return r
}

// simplify returns the equation of a term and its simplification with equations ahead of those of the set.
func (m *simplifier) simplify(t api.Term, more []*equation, depth int) equate.Equation {
	q := equate.Same(t)
	for {
		q = q.Then(m.parts(q.Right, more, depth))
		if u := m.normal(q.Right); !term.Equal(u, q.Right) {
			q = q.Then(m.Normal(q.Right))
			continue
		}
		next, ok := m.rewritten(q.Right, more, depth)
		if !ok {
			return q
		}
		q = q.Then(next)
	}
}

// rewritten returns the equation of a term that an equation, or a procedure, makes another one.
func (m *simplifier) rewritten(u api.Term, more []*equation, depth int) (equate.Equation, bool) {
	for _, l := range [2][]*equation{more, m.rules} {
		for _, q := range l {
			if r, ok := m.byEquation(q, u, more, depth); ok {
				return r, true
			}
		}
	}
	for _, p := range m.procs {
		if r, ok := m.byProcedure(p, u); ok {
			return r, true
		}
	}
	return equate.Equation{}, false
}

// parts returns the equation of a term whose parts are simplified.
func (m *simplifier) parts(t api.Term, more []*equation, depth int) equate.Equation {
	switch t.Op {
	case api.App:
		if q, ok := m.byCongruence(t, more, depth); ok {
			return q
		}
		f := m.simplify(t.Kids[0], more, depth)
		return m.Applied(f, m.simplify(t.Kids[1], more, depth))
	case api.Abs:
		x := m.variable(t.Type)
		m.take(x)
		defer func() {
			delete(m.mentioned, x.Name)
			m.Leave(x)
		}()
		return m.Over(x, t, m.simplify(term.Put(t.Kids[0], x), more, depth))
	}
	return equate.Same(t)
}

// variable returns a Free for a variable of a type, whose name is new.
func (m *simplifier) variable(typ api.Type) api.Term {
	return api.Term{Op: api.Free, Name: term.Variant("x", slices.Sorted(maps.Keys(m.mentioned))), Type: typ}
}

// above returns a number that makes indices greater than those of a term.
func above(t api.Term) int { return max(0, term.MaxIndex(t)+1) }

// matched returns what makes a pattern, raised by a number, a term.
func (m *simplifier) matched(p, t api.Term, n int) (api.Inst, bool) {
	if !conv.MayMatch(&p, &t) {
		return api.Inst{}, false
	}
	i, e := pattern.MatchIn(m.signature, term.Raise(p, n), t)
	return i, e == api.OK
}

// made returns the normal form of an instance of a raised term.
func (m *simplifier) made(i api.Inst, t api.Term, n int) api.Term {
	return m.normal(derive.Applied(i, term.Raise(t, n)))
}

// byEquation rewrites a term by an equation, if it is one of the equation's left sides, and the conditions hold.
func (m *simplifier) byEquation(q *equation, u api.Term, more []*equation, depth int) (equate.Equation, bool) {
	n := above(u)
	i, ok := m.matched(q.left, u, n)
	if !ok {
		return equate.Equation{}, false
	}
	v := m.made(i, q.right, n)
	if term.Equal(v, u) || q.ordered && term.Compare(v, u) >= 0 {
		return equate.Equation{}, false
	}
	m.attempt()
	var hold []equate.Equation
	for _, c := range q.conds {
		if depth == 0 {
			return equate.Equation{}, false
		}
		r := m.simplify(m.made(i, c, n), more, depth-1)
		if !isTrue(r.Right) {
			return equate.Equation{}, false
		}
		hold = append(hold, r)
	}
	th := derive.Instance(q.th, n, i)
	from, _ := term.Strip(th.Prop())
	for k, r := range hold {
		x := r.Turned(m.made(i, q.conds[k], n)).Of(m.library.With("trueI", api.Type{}))
		th = derive.Elim(th, m.Normal(from[k]).Turned(from[k]).Of(x))
	}
	return m.connected(u, th), true
}

// connected returns the equation of a term that a theorem makes, whose left side has the same normal form; its right side becomes normal.
func (m *simplifier) connected(u api.Term, th kernel.Theorem) equate.Equation {
	l, r, _ := term.IsEq(th.Prop())
	return m.Equal(u, l).Then(equate.Equation{Right: r, Th: th}).Then(m.Normal(r))
}

// isTrue reports whether a proposition is Truth of True.
func isTrue(t api.Term) bool { return term.Equal(t, hol.Truth(hol.True())) }

// byProcedure rewrites a term by a procedure.
func (m *simplifier) byProcedure(p procedure, u api.Term) (equate.Equation, bool) {
	if _, ok := m.matched(p.pattern, u, above(u)); !ok {
		return equate.Equation{}, false
	}
	m.attempt()
	th, e := p.conv(u)
	if e != api.OK {
		return equate.Equation{}, false
	}
	_, v, _ := term.IsEq(th.Prop())
	if term.Equal(m.normal(v), u) {
		return equate.Equation{}, false
	}
	return m.connected(u, th), true
}

// byCongruence simplifies the arguments of a constant by the first congruence rule for it.
func (m *simplifier) byCongruence(t api.Term, more []*equation, depth int) (equate.Equation, bool) {
	head, args := term.Spine(t)
	at := slices.IndexFunc(m.congs, func(c *congruence) bool {
		return head.Op == api.Const && c.name == head.Name && len(c.from) == len(args)
	})
	if at < 0 {
		return equate.Equation{}, false
	}
	c, n := m.congs[at], above(t)
	i, ok := m.matched(c.left, t, n)
	if !ok {
		return equate.Equation{}, false
	}
	known := api.Inst{Types: i.Types, Terms: slices.Clone(i.Terms)}
	var done []equate.Equation
	changed := false
	for _, p := range c.parts {
		old := term.Apply(i, term.Raise(c.from[p.at], n))
		q := m.simplify(old, slices.Concat(m.assumed(p, known, n), more), depth)
		to := c.to[p.at]
		known.Terms = append(known.Terms, api.TermBind{Name: to.Name, Index: to.Num + n, To: q.Right})
		done = append(done, q)
		changed = changed || q.Th.Is()
	}
	if !changed {
		return m.Equal(t, term.Apply(i, term.Raise(c.left, n))), true
	}
	th := derive.Instance(c.th, n, known)
	for k, p := range c.parts {
		th = derive.Elim(th, m.premise(th, p, done[k]))
	}
	l, r, _ := term.IsEq(th.Prop())
	return m.Equal(t, l).Then(equate.Equation{Right: r, Th: th}), true
}

// assumed returns the equations of the conditions of a part, as far as it is known what stands in them.
func (m *simplifier) assumed(p part, known api.Inst, n int) []*equation {
	var l []*equation
	for _, c := range p.conds {
		if e := m.made(known, c, n); !isSchematic(e) {
			l = append(l, m.equations(derive.Assume(m.world, e))...)
		}
	}
	return l
}

// premise returns the first premise of an instance of a congruence rule by the equation of a part, in which the normal forms of the conditions are assumed.
func (m *simplifier) premise(th kernel.Theorem, p part, q equate.Equation) kernel.Theorem {
	d, _, _ := term.IsImp(th.Prop())
	conds, _ := term.Strip(d)
	r := m.Theorem(q)
	for _, c := range slices.Backward(conds) {
		if normal := m.Normal(c); normal.Th.Is() {
			r = derive.Must(kernel.ImpIntro(normal.Right, r))
			r = derive.Elim(r, normal.Of(derive.Assume(m.world, c)))
		}
	}
	return derive.Intro(conds, r)
}
