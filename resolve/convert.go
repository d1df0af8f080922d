package resolve

import (
	"triforium/api"
	"triforium/derive"
	"triforium/kernel"
	"triforium/term"
)

// equation is a theorem that a term is equal to another one; without a theorem both are the same.
type equation struct {
	right api.Term
	th    kernel.Theorem
}

// then returns the equation of the left side and the right side of another equation, whose left side is the right one of this.
func (q equation) then(r equation) equation {
	switch {
	case !q.th.Is():
		return r
	case !r.th.Is():
		return q
	}
	return equation{r.right, derive.Must(kernel.Transitive(q.th, r.th))}
}

// turned returns the equation from the right to the left side.
func (q equation) turned(left api.Term) equation {
	if !q.th.Is() {
		return q
	}
	return equation{left, derive.Must(kernel.Symmetric(q.th))}
}

// of returns what is equal to what a theorem states.
func (q equation) of(th kernel.Theorem) kernel.Theorem {
	if !q.th.Is() {
		return th
	}
	return derive.Must(kernel.EqElim(q.th, th))
}

// theorem returns the theorem of an equation, also where both sides are the same.
func (m *maker) theorem(q equation) kernel.Theorem {
	if q.th.Is() {
		return q.th
	}
	return derive.Must(m.world.Reflexive(q.right))
}

// applied returns the equation of an application by those of its parts.
func (m *maker) applied(f, a equation) equation {
	r := equation{right: app(f.right, a.right)}
	if f.th.Is() || a.th.Is() {
		r.th = derive.Must(kernel.Combination(m.theorem(f), m.theorem(a)))
	}
	return r
}

// abstracted returns the equation of an abstraction by that of its body.
func (m *maker) abstracted(t api.Term, body func(api.Term) equation) equation {
	x := m.free(t.Name, t.Type)
	q := body(term.Put(t.Kids[0], x))
	if !q.th.Is() {
		return equation{right: t}
	}
	return equation{abs(t.Name, t.Type, term.Bind(x, q.right)), derive.Must(kernel.Abstraction(x, q.th))}
}

// normal returns the equation of a term and its beta normal form. The steps are those of term.Norm, each one of a part, so that no term on the way is larger than there.
func (m *maker) normal(t api.Term) equation {
	if !hasRedex(&t) {
		return equation{right: t}
	}
	switch t.Op {
	case api.Abs:
		return m.abstracted(t, m.normal)
	case api.App:
		q := m.exposed(t)
		if q.right.Op != api.App || q.th.Is() {
			return q.then(m.normal(q.right))
		}
		return m.applied(m.normal(t.Kids[0]), m.normal(t.Kids[1]))
	}
	return equation{right: t}
}

// exposed returns the equation of a term and what it becomes by steps at its head.
func (m *maker) exposed(t api.Term) equation {
	if t.Op != api.App {
		return equation{right: t}
	}
	f := m.exposed(t.Kids[0])
	q := m.applied(f, equation{right: t.Kids[1]})
	if f.right.Op != api.Abs {
		return q
	}
	next, _ := term.Beta(q.right)
	q = q.then(equation{next, derive.Must(m.world.Beta(q.right))})
	return q.then(m.exposed(next))
}

// hasRedex reports whether a term has an application of an abstraction.
func hasRedex(t *api.Term) bool {
	for n := range term.Nodes(t) {
		if n.Op == api.App && n.Kids[0].Op == api.Abs {
			return true
		}
	}
	return false
}

// short returns the equation of a beta-normal term and its eta normal form.
func (m *maker) short(t api.Term) equation {
	switch t.Op {
	case api.App:
		return m.applied(m.short(t.Kids[0]), m.short(t.Kids[1]))
	case api.Abs:
		q := m.abstracted(t, m.short)
		if f := term.Eta(q.right); f.Op != api.Abs || !term.Equal(f, q.right) {
			q = q.then(equation{f, derive.Must(m.world.Eta(q.right))})
		}
		return q
	}
	return equation{right: t}
}

// same returns the equation of beta-normal terms whose eta normal forms are equal.
func (m *maker) same(a, b api.Term) equation {
	if term.Equal(a, b) {
		return equation{right: b}
	}
	return m.short(a).then(m.short(b).turned(b))
}
