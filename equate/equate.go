// Package equate has equations of terms, made by the kernel's rules where they are needed alone: of applications and abstractions by those of their parts, of terms and their normal forms. Its functions leave by a panic with the code of the kernel, where it does not let a theorem be.
package equate

import (
	"strconv"

	"triforium/api"
	"triforium/derive"
	"triforium/kernel"
	"triforium/term"
)

// Equation is a theorem that a term is equal to Right; without a theorem both are the same.
type Equation struct {
	Right api.Term
	Th    kernel.Theorem
}

// Same returns the equation of a term and itself.
func Same(t api.Term) Equation { return Equation{Right: t} }

// Then returns the equation of the left side and the right side of another equation, whose left side is the right one of this.
func (q Equation) Then(r Equation) Equation {
	switch {
	case !q.Th.Is():
		return r
	case !r.Th.Is():
		return q
	}
	return Equation{r.Right, derive.Must(kernel.Transitive(q.Th, r.Th))}
}

// Turned returns the equation from the right to the left side.
func (q Equation) Turned(left api.Term) Equation {
	if !q.Th.Is() {
		return q
	}
	return Equation{left, derive.Must(kernel.Symmetric(q.Th))}
}

// Of returns what is equal to what a theorem states.
func (q Equation) Of(th kernel.Theorem) kernel.Theorem {
	if !q.Th.Is() {
		return th
	}
	return derive.Must(kernel.EqElim(q.Th, th))
}

// Maker makes equations in a world.
type Maker struct {
	World kernel.World
	taken map[string]bool // the names that no new Free may have
}

// New returns the maker of a world whose new Frees stand in none of some terms.
func New(w kernel.World, l ...api.Term) *Maker {
	m := Maker{w, map[string]bool{}}
	for _, t := range l {
		m.Take(t)
	}
	return &m
}

// Take lets no new Free have the name of one in a term.
func (m *Maker) Take(t api.Term) {
	for n := range term.Nodes(&t) {
		if n.Op == api.Free {
			m.taken[n.Name] = true
		}
	}
}

// longest is how long a name may be that is made new by a number behind it.
const longest = 30

// Free returns a new Free, whose name is like another one.
func (m *Maker) Free(name string, typ api.Type) api.Term {
	if name == "" {
		name = "x"
	}
	if m.taken[name] {
		name = name[:min(len(name), longest)]
		for base, i := name, 1; m.taken[name]; i++ {
			name = base + "_" + strconv.Itoa(i)
		}
	}
	m.taken[name] = true
	return api.Term{Op: api.Free, Name: name, Type: typ}
}

// Leave lets a Free that was new be new again.
func (m *Maker) Leave(x api.Term) { delete(m.taken, x.Name) }

// Theorem returns the theorem of an equation, also where both sides are the same.
func (m *Maker) Theorem(q Equation) kernel.Theorem {
	if q.Th.Is() {
		return q.Th
	}
	return derive.Must(m.World.Reflexive(q.Right))
}

// Applied returns the equation of an application by those of its parts.
func (m *Maker) Applied(f, a Equation) Equation {
	r := Equation{Right: api.Term{Op: api.App, Kids: []api.Term{f.Right, a.Right}}}
	if f.Th.Is() || a.Th.Is() {
		r.Th = derive.Must(kernel.Combination(m.Theorem(f), m.Theorem(a)))
	}
	return r
}

// Abstracted returns the equation of an abstraction by that of its body, with a new Free for its variable.
func (m *Maker) Abstracted(t api.Term, body func(api.Term) Equation) Equation {
	x := m.Free(t.Name, t.Type)
	defer m.Leave(x)
	return m.Over(x, t, body(term.Put(t.Kids[0], x)))
}

// Over returns the equation of an abstraction by that of its body, where a Free that stands nowhere else is its variable.
func (m *Maker) Over(x, t api.Term, q Equation) Equation {
	if !q.Th.Is() {
		return Same(t)
	}
	r := api.Term{Op: api.Abs, Name: t.Name, Type: t.Type, Kids: []api.Term{term.Bind(x, q.Right)}}
	return Equation{r, derive.Must(kernel.Abstraction(x, q.Th))}
}

// Normal returns the equation of a term and its beta normal form. The steps are those of term.Norm, each one of a part, so that no term on the way is larger than there.
func (m *Maker) Normal(t api.Term) Equation {
	if !HasRedex(&t) {
		return Same(t)
	}
	switch t.Op {
	case api.Abs:
		return m.Abstracted(t, m.Normal)
	case api.App:
		q := m.exposed(t)
		if q.Right.Op != api.App || q.Th.Is() {
			return q.Then(m.Normal(q.Right))
		}
		return m.Applied(m.Normal(t.Kids[0]), m.Normal(t.Kids[1]))
	}
	return Same(t)
}

// exposed returns the equation of a term and what it becomes by steps at its head.
func (m *Maker) exposed(t api.Term) Equation {
	if t.Op != api.App {
		return Same(t)
	}
	f := m.exposed(t.Kids[0])
	q := m.Applied(f, Same(t.Kids[1]))
	if f.Right.Op != api.Abs {
		return q
	}
	q = q.Then(m.Beta(q.Right))
	return q.Then(m.exposed(q.Right))
}

// Beta returns the equation of an application of an abstraction and what it becomes.
func (m *Maker) Beta(t api.Term) Equation {
	next, _ := term.Beta(t)
	return Equation{next, derive.Must(m.World.Beta(t))}
}

// HasRedex reports whether a term has an application of an abstraction.
func HasRedex(t *api.Term) bool {
	for n := range term.Nodes(t) {
		if n.Op == api.App && n.Kids[0].Op == api.Abs {
			return true
		}
	}
	return false
}

// Short returns the equation of a beta-normal term and its eta normal form.
func (m *Maker) Short(t api.Term) Equation {
	switch t.Op {
	case api.App:
		return m.Applied(m.Short(t.Kids[0]), m.Short(t.Kids[1]))
	case api.Abs:
		q := m.Abstracted(t, m.Short)
		if f := term.Eta(q.Right); f.Op != api.Abs || !term.Equal(f, q.Right) {
			q = q.Then(Equation{f, derive.Must(m.World.Eta(q.Right))})
		}
		return q
	}
	return Same(t)
}

// Alike returns the equation of beta-normal terms whose eta normal forms are equal.
func (m *Maker) Alike(a, b api.Term) Equation {
	if term.Equal(a, b) {
		return Same(b)
	}
	return m.Short(a).Then(m.Short(b).Turned(b))
}

// Equal returns the equation of terms whose beta and eta normal forms are equal.
func (m *Maker) Equal(a, b api.Term) Equation {
	p, q := m.Normal(a), m.Normal(b)
	return p.Then(m.Alike(p.Right, q.Right)).Then(q.Turned(b))
}
