package conv

import (
	"triforium/api"
	"triforium/derive"
	"triforium/equate"
	"triforium/kernel"
	"triforium/pattern"
	"triforium/term"
)

// machine has what a conversion is made of.
type machine struct {
	world kernel.World
	rules []rule
	whole conversion
	fuel  int
}

// rule is a theorem that states left == right.
type rule struct {
	th          kernel.Theorem
	left, right api.Term
}

// conversion makes the equation of a term; false, if it does not apply.
type conversion func(r *run, t api.Term) (equate.Equation, bool)

// run has the steps that a call of a conversion has made.
type run struct {
	*machine
	maker *equate.Maker
	steps int
}

// convert is the conversion of a machine.
func (m *machine) convert(t api.Term) (th kernel.Theorem, code api.Errno) {
	defer func() {
		if x := recover(); x != nil {
			th, code = kernel.Theorem{}, derive.Failure(x)
		}
	}()
	if _, code := m.world.Signature().Check(t); code != api.OK {
		return kernel.Theorem{}, code
	}
	r := run{machine: m, maker: equate.New(m.world, t)}
	for _, x := range m.rules {
		for _, p := range derive.Parts(x.th) {
			r.maker.Take(p)
		}
	}
	q, ok := m.whole(&r, t)
	if !ok {
		return kernel.Theorem{}, api.ErrFail
	}
	if !q.Th.Is() {
		q.Right = t
	}
	return r.maker.Theorem(q), api.OK
}

// step counts a step, which ends the conversion if there is no fuel.
func (r *run) step() {
	if r.steps >= r.fuel {
		panic(api.ErrFuel)
	}
	r.steps++
}

// attempt returns the equation that a function makes; false, if the kernel does not permit it. What a limit does not let be ends the conversion.
func attempt(build func() equate.Equation) (q equate.Equation, ok bool) {
	defer func() {
		if x := recover(); x != nil {
			switch derive.Failure(x) {
			case api.ErrCount, api.ErrDepth, api.ErrLarge, api.ErrRange, api.ErrFuel:
				panic(x)
			}
			q, ok = equate.Equation{}, false
		}
	}()
	return build(), true
}

// maxSteps is the fuel of normal forms.
const maxSteps = 1000

// normal returns a beta-normal form, or leaves with its error.
func normal(t api.Term) api.Term {
	r, code := term.Norm(t, maxSteps)
	if code != api.OK {
		panic(code)
	}
	return r
}

// rewrite applies the rule with a number to a term.
func (r *run) rewrite(number int, t api.Term) (equate.Equation, bool) {
	x := r.rules[number]
	if !MayMatch(&x.left, &t) {
		return equate.Equation{}, false
	}
	n := max(0, term.MaxIndex(t)+1)
	left := term.Raise(x.left, n)
	i, code := pattern.MatchIn(r.world.Signature(), left, t)
	if code != api.OK {
		return equate.Equation{}, false
	}
	right := derive.Applied(i, term.Raise(x.right, n))
	normal(right)
	return attempt(func() equate.Equation {
		r.step()
		q := equate.Equation{Right: right, Th: derive.Instance(x.th, n, i)}
		q = r.maker.Equal(t, term.Apply(i, left)).Then(q)
		return q.Then(r.maker.Normal(q.Right))
	})
}

// MayMatch reports whether a pattern may match a term, as far as the constants and variables show it that no instance and no normal form changes.
func MayMatch(p, t *api.Term) bool {
	if p.Op == api.Abs || t.Op == api.Abs {
		return p.Op != t.Op || MayMatch(&p.Kids[0], &t.Kids[0])
	}
	a, n := head(p)
	b, k := head(t)
	if a.Op == api.Var || a.Op == api.Abs || b.Op == api.Abs {
		return true
	}
	if n != k || a.Op != b.Op || a.Name != b.Name || a.Num != b.Num {
		return false
	}
	for p.Op == api.App {
		if !MayMatch(&p.Kids[1], &t.Kids[1]) {
			return false
		}
		p, t = &p.Kids[0], &t.Kids[0]
	}
	return true
}

// head returns the head of a term, which shares memory with it, and how many arguments it has.
func head(t *api.Term) (*api.Term, int) {
	n := 0
	for t.Op == api.App {
		t = &t.Kids[0]
		n++
	}
	return t, n
}

// then returns the equation of two that are made one behind the other.
func then(a, b equate.Equation) (equate.Equation, bool) {
	return attempt(func() equate.Equation { return a.Then(b) })
}
