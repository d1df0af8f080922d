package conv

import (
	"triforium/api"
	"triforium/equate"
	"triforium/kernel"
	"triforium/term"
)

// compile returns the conversion of an expression.
func compile(e Expr) conversion {
	var l []conversion
	for _, k := range e.Kids {
		l = append(l, compile(k))
	}
	unary := [...]func(*run, conversion, api.Term) (equate.Equation, bool){
		Repeat: (*run).repeat, Arg: (*run).arg, Fun: (*run).fun, Body: (*run).body, Sub: (*run).sub, Top: (*run).top, Bottom: (*run).bottom, Once: (*run).once,
	}
	switch e.Kind {
	case All, No, Beta, Eta, Norm:
		return [...]conversion{All: (*run).all, No: (*run).no, Beta: (*run).beta, Eta: (*run).eta, Norm: (*run).norm}[e.Kind]
	case Rule:
		return func(r *run, t api.Term) (equate.Equation, bool) { return r.rewrite(e.Num, t) }
	case Then:
		return func(r *run, t api.Term) (equate.Equation, bool) { return r.then(l[0], l[1], t) }
	case Else:
		return func(r *run, t api.Term) (equate.Equation, bool) {
			if q, ok := l[0](r, t); ok {
				return q, true
			}
			return l[1](r, t)
		}
	}
	return func(r *run, t api.Term) (equate.Equation, bool) { return unary[e.Kind](r, l[0], t) }
}

func (r *run) all(t api.Term) (equate.Equation, bool) { return equate.Same(t), true }

func (r *run) no(api.Term) (equate.Equation, bool) { return equate.Equation{}, false }

func (r *run) beta(t api.Term) (equate.Equation, bool) {
	if t.Op != api.App || t.Kids[0].Op != api.Abs {
		return equate.Equation{}, false
	}
	return attempt(func() equate.Equation {
		th, code := r.world.Beta(t)
		return r.made(th, code)
	})
}

func (r *run) eta(t api.Term) (equate.Equation, bool) {
	return attempt(func() equate.Equation {
		th, code := r.world.Eta(t)
		return r.made(th, code)
	})
}

// made returns the equation that a rule of the kernel has made in a step.
func (r *run) made(th kernel.Theorem, code api.Errno) equate.Equation {
	if code != api.OK {
		panic(code)
	}
	r.step()
	_, right, _ := term.IsEq(th.Prop())
	return equate.Equation{Right: right, Th: th}
}

func (r *run) norm(t api.Term) (equate.Equation, bool) {
	normal(t)
	return attempt(func() equate.Equation {
		r.step()
		return r.maker.Normal(t)
	})
}

func (r *run) then(a, b conversion, t api.Term) (equate.Equation, bool) {
	q, ok := a(r, t)
	if !ok {
		return equate.Equation{}, false
	}
	next, ok := b(r, q.Right)
	if !ok {
		return equate.Equation{}, false
	}
	return then(q, next)
}

// repeat goes on until the conversion does not apply, or the term stays the same.
func (r *run) repeat(c conversion, t api.Term) (equate.Equation, bool) {
	q := equate.Same(t)
	for {
		next, ok := c(r, q.Right)
		if !ok {
			return q, true
		}
		same := term.Equal(next.Right, q.Right)
		more, ok := then(q, next)
		if !ok || same {
			return or(more, q, ok), true
		}
		q = more
	}
}

// or returns the first equation, if it is there, otherwise the second one.
func or(a, b equate.Equation, ok bool) equate.Equation {
	if ok {
		return a
	}
	return b
}

// arg converts the argument of an application.
func (r *run) arg(c conversion, t api.Term) (equate.Equation, bool) {
	if t.Op != api.App {
		return equate.Equation{}, false
	}
	q, ok := c(r, t.Kids[1])
	if !ok {
		return equate.Equation{}, false
	}
	return attempt(func() equate.Equation { return r.maker.Applied(equate.Same(t.Kids[0]), q) })
}

// fun converts the function of an application.
func (r *run) fun(c conversion, t api.Term) (equate.Equation, bool) {
	if t.Op != api.App {
		return equate.Equation{}, false
	}
	q, ok := c(r, t.Kids[0])
	if !ok {
		return equate.Equation{}, false
	}
	return attempt(func() equate.Equation { return r.maker.Applied(q, equate.Same(t.Kids[1])) })
}

// body converts the body of an abstraction, with a new Free for its variable.
func (r *run) body(c conversion, t api.Term) (equate.Equation, bool) {
	if t.Op != api.Abs {
		return equate.Equation{}, false
	}
	x := r.maker.Free(t.Name, t.Type)
	defer r.maker.Leave(x)
	q, ok := c(r, term.Put(t.Kids[0], x))
	if !ok {
		return equate.Equation{}, false
	}
	return attempt(func() equate.Equation { return r.maker.Over(x, t, q) })
}

// sub converts the direct parts to which the conversion applies.
func (r *run) sub(c conversion, t api.Term) (equate.Equation, bool) {
	if t.Op != api.App {
		return r.body(c, t)
	}
	f, first := c(r, t.Kids[0])
	a, second := c(r, t.Kids[1])
	if !first && !second {
		return equate.Equation{}, false
	}
	f, a = or(f, equate.Same(t.Kids[0]), first), or(a, equate.Same(t.Kids[1]), second)
	return attempt(func() equate.Equation { return r.maker.Applied(f, a) })
}

// top goes from the outside to the inside.
func (r *run) top(c conversion, t api.Term) (equate.Equation, bool) {
	q, _ := r.repeat(c, t)
	parts, ok := r.sub(func(r *run, t api.Term) (equate.Equation, bool) { return r.top(c, t) }, q.Right)
	if !ok {
		return q, true
	}
	changed := !term.Equal(parts.Right, q.Right)
	if q, ok = joined(q, parts); !ok || !changed {
		return q, true
	}
	return r.again((*run).top, c, q, false), true
}

// joined returns the equation of two, or the first one, if the kernel does not permit it.
func joined(a, b equate.Equation) (equate.Equation, bool) {
	q, ok := then(a, b)
	return or(q, a, ok), ok
}

// again applies the conversion to what an equation has made, and if it applies, what goes everywhere to what comes out; not, if the term may not stay the same and does.
func (r *run) again(everywhere func(*run, conversion, api.Term) (equate.Equation, bool), c conversion, q equate.Equation, changed bool) equate.Equation {
	next, ok := c(r, q.Right)
	if !ok {
		return q
	}
	same := term.Equal(next.Right, q.Right)
	if q, ok = joined(q, next); !ok || changed && same {
		return q
	}
	rest, _ := everywhere(r, c, q.Right)
	q, _ = joined(q, rest)
	return q
}

// bottom goes from the inside to the outside.
func (r *run) bottom(c conversion, t api.Term) (equate.Equation, bool) {
	q := equate.Same(t)
	if parts, ok := r.sub(func(r *run, t api.Term) (equate.Equation, bool) { return r.bottom(c, t) }, t); ok {
		q = parts
	}
	return r.again((*run).bottom, c, q, true), true
}

// once applies the conversion at the first place, from the outside, to which it applies.
func (r *run) once(c conversion, t api.Term) (equate.Equation, bool) {
	if q, ok := c(r, t); ok {
		return q, true
	}
	self := func(r *run, t api.Term) (equate.Equation, bool) { return r.once(c, t) }
	if q, ok := r.fun(self, t); ok {
		return q, true
	}
	if q, ok := r.arg(self, t); ok {
		return q, true
	}
	return r.body(self, t)
}
