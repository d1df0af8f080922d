package classical

import (
	"iter"

	"triforium/api"
	"triforium/kernel"
	"triforium/resolve"
	"triforium/term"
)

// unifyDepth is that of all unifications, maxStates how many states of an unsafe rule are looked at.
const (
	unifyDepth = 8
	maxStates  = 10
)

// rule is a rule in the world of a search, with its kind of resolution.
type rule struct {
	th   kernel.Theorem
	kind int
	safe bool
}

// search counts the tries and the safe steps that were made. It is left with api.ErrFuel by a panic.
type search struct {
	rules       []rule
	steps       int
	tries, made int
}

// focus is some of the subgoals of a state in a row.
type focus struct {
	state       kernel.Theorem
	from, count int
}

// subgoals returns the number of subgoals of a state.
func subgoals(state kernel.Theorem) int {
	l, _ := term.Strip(state.Prop())
	return len(l)
}

// try counts a try.
func (s *search) try() {
	if s.tries >= s.steps {
		panic(api.ErrFuel)
	}
	s.tries++
}

// resolvents yields the states of a try with a rule, at most so many.
func (s *search) resolvents(r rule, at int, state kernel.Theorem, most int) iter.Seq[kernel.Theorem] {
	return func(yield func(kernel.Theorem) bool) {
		s.try()
		n := 0
		for th := range resolve.Compose(r.th, at, state, r.kind, unifyDepth) {
			n++
			if !yield(th) || n == most {
				return
			}
		}
	}
}

// step makes the first safe step on a subgoal, if there is one.
func (s *search) step(at int, state kernel.Theorem) (kernel.Theorem, bool) {
	s.try()
	for th := range resolve.Assumption(at, state, unifyDepth) {
		return th, true
	}
	for _, r := range s.rules {
		if !r.safe {
			continue
		}
		for th := range s.resolvents(r, at, state, 1) {
			return th, true
		}
	}
	return kernel.Theorem{}, false
}

// safe makes safe steps on a focus.
func (s *search) safe(f focus) focus {
	for at := f.from; at < f.from+f.count; {
		next, ok := s.step(at, f.state)
		if !ok {
			at++
			continue
		}
		s.made++
		f = focus{next, f.from, f.count + subgoals(next) - subgoals(f.state)}
	}
	return f
}

// solve solves a subgoal to a depth.
func (s *search) solve(state kernel.Theorem, at, depth int) (kernel.Theorem, bool) {
	var solve, unsafe func(state kernel.Theorem, at, depth int) (kernel.Theorem, bool)
	solve = func(state kernel.Theorem, at, depth int) (kernel.Theorem, bool) {
		f := s.safe(focus{state, at, 1})
		for ; f.count > 0; f.count-- {
			var ok bool
			if f.state, ok = unsafe(f.state, f.from, depth); !ok {
				return kernel.Theorem{}, false
			}
		}
		return f.state, true
	}
	unsafe = func(state kernel.Theorem, at, depth int) (kernel.Theorem, bool) {
		if depth == 0 {
			return kernel.Theorem{}, false
		}
		for _, r := range s.rules {
			if r.safe {
				continue
			}
		states:
			for next := range s.resolvents(r, at, state, maxStates) {
				for range subgoals(next) - subgoals(state) + 1 {
					var ok bool
					if next, ok = solve(next, at, depth-1); !ok {
						continue states
					}
				}
				return next, true
			}
		}
		return kernel.Theorem{}, false
	}
	return solve(state, at, depth)
}
