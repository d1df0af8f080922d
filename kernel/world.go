package kernel

import (
	"triforium/api"
	"triforium/term"
	"triforium/theory"
)

// World is a theory without an error, opened once for many rules, since each rule that takes a theory has to check all of it. The zero value is none.
type World struct{ is *world }

// Open returns the world of a theory, or its error.
func Open(thy api.Theory) (w World, e api.Errno) {
	defer func() {
		if x := recover(); x != nil {
			w, e = World{}, failure(x)
		}
	}()
	return World{openWorld(thy)}, api.OK
}

// Common returns the world of what is made of two theorems, or the error of these two.
func Common(first, second Theorem) (w World, e api.Errno) {
	defer func() {
		if x := recover(); x != nil {
			w, e = World{}, failure(x)
		}
	}()
	var c call
	c.takeTheorems([]Theorem{first, second})
	return World{c.in}, api.OK
}

// World returns the world of a theorem.
func (t Theorem) World() World {
	if t.is == nil {
		return World{}
	}
	return World{t.is.in}
}

// Theory returns the theory of a world.
func (w World) Theory() api.Theory {
	if w.is == nil {
		return api.Theory{}
	}
	return theory.Clone(w.is.theory)
}

// Signature returns what the theory of a world says of terms; the zero value has none.
func (w World) Signature() term.Signature {
	if w.is == nil {
		return term.Signature{}
	}
	return w.is.signature
}

// perform makes a step in a world.
func (w World) perform(s Step, from ...Theorem) (Theorem, api.Errno) {
	if w.is == nil {
		return Theorem{}, ErrNone
	}
	return perform(s, func() *world { return w.is }, from...)
}

// Axiom, Assume, Reflexive, Beta, Eta and Transfer do in a world what the functions with their names do in its theory.
func (w World) Axiom(name string) (Theorem, api.Errno) {
	return w.perform(Step{Rule: api.ByAxiom, Name: name})
}

// Assume returns A from the hypothesis A.
func (w World) Assume(a api.Term) (Theorem, api.Errno) {
	return w.perform(Step{Rule: api.Assume, Term: a})
}

// Reflexive returns t == t.
func (w World) Reflexive(t api.Term) (Theorem, api.Errno) {
	return w.perform(Step{Rule: api.Reflexive, Term: t})
}

// Beta returns (\x. b) a == b[a].
func (w World) Beta(t api.Term) (Theorem, api.Errno) {
	return w.perform(Step{Rule: api.Beta, Term: t})
}

// Eta returns (\x. f x) == f.
func (w World) Eta(t api.Term) (Theorem, api.Errno) {
	return w.perform(Step{Rule: api.Eta, Term: t})
}

// Transfer returns a theorem in a world whose theory has all that its own one has.
func (w World) Transfer(t Theorem) (Theorem, api.Errno) {
	return w.perform(Step{Rule: TransferRule}, t)
}
