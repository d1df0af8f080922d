// Package derive has what functions share that make theorems by many rules of the kernel: these leave by a panic with the code of the first rule that does not let a theorem be.
package derive

import (
	"slices"

	"triforium/api"
	"triforium/kernel"
	"triforium/term"
)

// Must returns a theorem, or leaves with its error.
func Must(th kernel.Theorem, e api.Errno) kernel.Theorem {
	if e != api.OK {
		panic(e)
	}
	return th
}

// Failure returns the code with which a function was left.
func Failure(x any) api.Errno {
	if e, ok := x.(api.Errno); ok {
		return e
	}
	return api.ErrFail
}

// Assume returns a proposition as a theorem from itself.
func Assume(w kernel.World, t api.Term) kernel.Theorem { return Must(w.Assume(t)) }

// Elim returns B from A ==> B and A.
func Elim(ab, a kernel.Theorem) kernel.Theorem { return Must(kernel.ImpElim(ab, a)) }

// Intro puts premises ahead of what a theorem states, which need no longer hold.
func Intro(l []api.Term, th kernel.Theorem) kernel.Theorem {
	for _, a := range slices.Backward(l) {
		th = Must(kernel.ImpIntro(a, th))
	}
	return th
}

// Through returns what a function makes of theorems in a world, where it is given them as assumptions: so no hypothesis of theirs is lost where it is equal to a premise, and their proofs do not come to stand deep within another one.
func Through(w kernel.World, l []kernel.Theorem, build func([]kernel.Theorem) kernel.Theorem) kernel.Theorem {
	var props []api.Term
	var assumed []kernel.Theorem
	for _, th := range l {
		props = append(props, th.Prop())
		assumed = append(assumed, Assume(w, th.Prop()))
	}
	r := Intro(props, build(assumed))
	for _, th := range l {
		r = Elim(r, th)
	}
	return r
}

// WithHyps returns a theorem that has some hypotheses at least: they are lost where a premise is equal to them.
func WithHyps(th kernel.Theorem, l []api.Term) kernel.Theorem {
	have := th.Hyps()
	for _, h := range l {
		if slices.ContainsFunc(have, func(x api.Term) bool { return term.Equal(x, h) }) {
			continue
		}
		th = Elim(Must(kernel.ImpIntro(h, th)), Assume(th.World(), h))
		have = append(have, h)
	}
	return th
}

// Named returns a theorem that states an equal proposition, with its names of abstractions, if an equation of it can be stated.
func Named(th kernel.Theorem, t api.Term) kernel.Theorem {
	nodes, depth := term.Size(t)
	if 2*nodes+3 > api.MaxTerm || depth+2 > api.MaxDepth || sameNames(th.Prop(), t) {
		return th
	}
	return Must(kernel.EqElim(Must(th.World().Reflexive(t)), th))
}

// sameNames reports whether the abstractions of equal terms have the same names.
func sameNames(a, b api.Term) bool {
	return (a.Op != api.Abs || a.Name == b.Name) && slices.EqualFunc(a.Kids, b.Kids, sameNames)
}
