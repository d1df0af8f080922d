package tactic

import (
	"iter"
	"slices"

	"triforium/api"
	"triforium/derive"
	"triforium/kernel"
	"triforium/resolve"
	"triforium/term"
)

// Limits of the searches of steps.
const (
	unifyDepth = 8
	maxStates  = 1000
)

// limited yields the first states of a sequence.
func limited(s iter.Seq[kernel.Theorem]) iter.Seq[kernel.Theorem] {
	return func(yield func(kernel.Theorem) bool) {
		n := 0
		for th := range s {
			n++
			if !yield(th) || n == maxStates {
				return
			}
		}
	}
}

func (r *runner) resolution(e *Expr, f focus) iter.Seq[focus] {
	kind := map[int]int{Rule: resolve.Rule, Erule: resolve.Erule, Drule: resolve.Drule}[e.Kind]
	return r.basic(e, f, func(at int) iter.Seq[kernel.Theorem] {
		return limited(resolve.Compose(r.rules[e.Num], at, f.state, kind, unifyDepth))
	})
}

func (r *runner) assumption(e *Expr, f focus) iter.Seq[focus] {
	return r.basic(e, f, func(at int) iter.Seq[kernel.Theorem] {
		return limited(resolve.Assumption(at, f.state, unifyDepth))
	})
}

// one yields the state that a function makes, if the kernel lets it be, and there is one.
func one(build func() kernel.Theorem) iter.Seq[kernel.Theorem] {
	return func(yield func(kernel.Theorem) bool) {
		if th, ok := attempted(build); ok {
			yield(th)
		}
	}
}

// attempted returns what a function makes; false, if it leaves.
func attempted(build func() kernel.Theorem) (th kernel.Theorem, ok bool) {
	defer func() {
		if recover() != nil {
			th, ok = kernel.Theorem{}, false
		}
	}()
	return build(), true
}

// replaced returns a state in which new subgoals stand in the place of one, which a function proves of them, and of further theorems.
func (r *runner) replaced(state kernel.Theorem, at int, news []api.Term, prove func(more []kernel.Theorem) kernel.Theorem, more ...kernel.Theorem) kernel.Theorem {
	return derive.Through(r.world, append([]kernel.Theorem{state}, more...), func(from []kernel.Theorem) kernel.Theorem {
		l, _ := term.Strip(state.Prop())
		th := from[0]
		for _, a := range l[:at] {
			th = derive.Elim(th, derive.Assume(r.world, a))
		}
		return derive.Intro(slices.Concat(l[:at], news), derive.Elim(th, prove(from[1:])))
	})
}

// goalAt returns a subgoal of a state.
func goalAt(state kernel.Theorem, at int) api.Term {
	l, _ := term.Strip(state.Prop())
	return l[at]
}

func (r *runner) rotation(e *Expr, f focus) iter.Seq[focus] {
	return r.basic(e, f, func(at int) iter.Seq[kernel.Theorem] {
		return one(func() kernel.Theorem {
			return derive.Through(r.world, []kernel.Theorem{f.state}, func(from []kernel.Theorem) kernel.Theorem {
				l, _ := term.Strip(f.state.Prop())
				l = l[:f.from+f.count]
				th := from[0]
				for _, a := range l {
					th = derive.Elim(th, derive.Assume(r.world, a))
				}
				return derive.Intro(slices.Concat(l[:at], l[at+1:], l[at:at+1]), th)
			})
		})
	})
}

func (r *runner) protection(e *Expr, f focus) iter.Seq[focus] {
	return r.basic(e, f, func(at int) iter.Seq[kernel.Theorem] {
		return one(func() kernel.Theorem {
			a := goalAt(f.state, at)
			if b, ok := term.IsProtect(a); ok {
				return r.replaced(f.state, at, []api.Term{b}, func([]kernel.Theorem) kernel.Theorem { return protected(derive.Assume(r.world, b)) })
			}
			b := term.Protect(a)
			return r.replaced(f.state, at, []api.Term{b}, func([]kernel.Theorem) kernel.Theorem {
				return derive.Must(kernel.EqElim(protection(r.world, a), derive.Assume(r.world, b)))
			})
		})
	})
}

func (r *runner) cutting(e *Expr, f focus) iter.Seq[focus] {
	return r.basic(e, f, func(at int) iter.Seq[kernel.Theorem] {
		return one(func() kernel.Theorem {
			first := derive.Assume(r.world, e.Prop)
			whole := term.Imp(e.Prop, goalAt(f.state, at))
			return r.replaced(f.state, at, []api.Term{e.Prop, whole}, func([]kernel.Theorem) kernel.Theorem {
				return derive.Elim(derive.Assume(r.world, whole), first)
			})
		})
	})
}

func (r *runner) unfolding(e *Expr, f focus) iter.Seq[focus] {
	return r.basic(e, f, func(at int) iter.Seq[kernel.Theorem] {
		return one(func() kernel.Theorem {
			rule := r.rules[e.Num]
			c, right, ok := term.IsEq(rule.Prop())
			old := goalAt(f.state, at)
			body := abstracted(&c, &old, 0)
			if !ok || c.Op != api.Const && c.Op != api.Free || term.Closed(body) {
				panic(api.ErrFail)
			}
			function := api.Term{Op: api.Abs, Name: "x", Type: c.Type, Kids: []api.Term{body}}
			unfolded := term.Put(body, right)
			return r.replaced(f.state, at, []api.Term{unfolded}, func(more []kernel.Theorem) kernel.Theorem {
				same := derive.Must(kernel.Combination(derive.Must(r.world.Reflexive(function)), more[0]))
				same = derive.Must(kernel.Transitive(same, r.beta(function, right)))
				same = derive.Must(kernel.Transitive(derive.Must(kernel.Symmetric(r.beta(function, c))), same))
				return derive.Must(kernel.EqElim(derive.Must(kernel.Symmetric(same)), derive.Assume(r.world, unfolded)))
			}, rule)
		})
	})
}

// beta returns the equation of a function applied to a term and what becomes of this.
func (r *runner) beta(f, a api.Term) kernel.Theorem {
	return derive.Must(r.world.Beta(term.Apps(f, []api.Term{a})))
}

// abstracted returns the body of an abstraction for a constant, or a fixed variable, with so many abstractions around it.
func abstracted(c, t *api.Term, around int) api.Term {
	if t.Op == c.Op && term.Equal(*t, *c) {
		return api.Term{Op: api.Bound, Num: around}
	}
	if t.Op == api.Abs {
		around++
	}
	r := *t
	r.Kids = nil
	for i := range t.Kids {
		r.Kids = append(r.Kids, abstracted(c, &t.Kids[i], around))
	}
	return r
}
