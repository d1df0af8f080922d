package tactic

import "iter"

func (r *runner) pass(_ *Expr, f focus) iter.Seq[focus] {
	return func(yield func(focus) bool) { yield(f) }
}

func (r *runner) fail(*Expr, focus) iter.Seq[focus] {
	return func(func(focus) bool) {}
}

func (r *runner) then(e *Expr, f focus) iter.Seq[focus] {
	return func(yield func(focus) bool) {
		for g := range r.apply(&e.Kids[0], f) {
			for h := range r.apply(&e.Kids[1], g) {
				if !yield(h) {
					return
				}
			}
		}
	}
}

func (r *runner) or(e *Expr, f focus) iter.Seq[focus] {
	return func(yield func(focus) bool) {
		for i := range e.Kids {
			for g := range r.apply(&e.Kids[i], f) {
				if !yield(g) {
					return
				}
			}
		}
	}
}

func (r *runner) orElse(e *Expr, f focus) iter.Seq[focus] {
	return otherwise(r.apply(&e.Kids[0], f), r.apply(&e.Kids[1], f))
}

func (r *runner) try(e *Expr, f focus) iter.Seq[focus] {
	return otherwise(r.apply(&e.Kids[0], f), r.pass(e, f))
}

// otherwise yields a sequence, or another one, if it is empty.
func otherwise(s, other iter.Seq[focus]) iter.Seq[focus] {
	return func(yield func(focus) bool) {
		none := true
		for g := range s {
			none = false
			if !yield(g) {
				return
			}
		}
		if none {
			other(yield)
		}
	}
}

func (r *runner) repeat(e *Expr, f focus) iter.Seq[focus] {
	again := func(yield func(focus) bool) {
		r.step()
		for g := range r.apply(&e.Kids[0], f) {
			for h := range r.repeat(e, g) {
				if !yield(h) {
					return
				}
			}
		}
	}
	return otherwise(again, r.pass(e, f))
}

func (r *runner) each(e *Expr, f focus) iter.Seq[focus] { return r.eachFrom(e, f, f.count-1) }

// eachFrom applies the part of an expression to the subgoals in focus from one on, backwards.
func (r *runner) eachFrom(e *Expr, f focus, i int) iter.Seq[focus] {
	return func(yield func(focus) bool) {
		if i < 0 {
			yield(f)
			return
		}
		one := focus{f.state, f.goals, f.from + i, 1}
		for g := range r.apply(&e.Kids[0], one) {
			for h := range r.eachFrom(e, f.on(g.state, g.goals), i-1) {
				if !yield(h) {
					return
				}
			}
		}
	}
}

func (r *runner) first(e *Expr, f focus) iter.Seq[focus] {
	return func(yield func(focus) bool) {
		for g := range r.apply(&e.Kids[0], f) {
			yield(g)
			break
		}
	}
}

func (r *runner) solve(e *Expr, f focus) iter.Seq[focus] {
	return func(yield func(focus) bool) {
		for g := range r.apply(&e.Kids[0], f) {
			if g.count < f.count && !yield(g) {
				return
			}
		}
	}
}
