package tableau

import (
	"triforium/api"
	"triforium/derive"
	"triforium/equate"
	"triforium/hol"
	"triforium/kernel"
	"triforium/term"
)

// replayer makes theorems of the nodes of a tableau. Each one is proved from formulas of its branch, which are assumed, so that no proof is made twice.
type replayer struct {
	*ground
	library *hol.Library
	maker   *equate.Maker
}

// replay returns the theorem of False from formulas, by a tableau without an error.
func (g *ground) replay(l []api.Term, t *Tree) kernel.Theorem {
	r := replayer{g, hol.Load(g.world), equate.New(g.world, l...)}
	for n := range t.nodes() {
		r.maker.Take(n.Term)
	}
	return r.node(l, t)
}

// nodes yields the nodes of a tree.
func (t *Tree) nodes() func(yield func(*Tree) bool) {
	return func(yield func(*Tree) bool) {
		var walk func(*Tree) bool
		walk = func(t *Tree) bool {
			if !yield(t) {
				return false
			}
			for i := range t.Kids {
				if !walk(&t.Kids[i]) {
					return false
				}
			}
			return true
		}
		walk(t)
	}
}

// node returns the theorem of False from the formulas of a branch.
func (r *replayer) node(branch []api.Term, t *Tree) kernel.Theorem {
	if t.Kind == Close {
		return r.closed(branch, t)
	}
	s := shapeOf(branch[t.At])
	th := r.eliminating(s, t)
	th = derive.Elim(th, r.assume(branch[t.At]))
	for i, more := range r.added(branch, s, t) {
		kid := r.node(r.grown(branch, more), &t.Kids[i])
		premise, _, _ := term.IsImp(th.Prop())
		if s.kind == Gamma || s.kind == Delta {
			th = derive.Elim(th, r.behindInstance(premise, more[0], t.Term, kid))
			continue
		}
		var truths []api.Term
		for _, p := range more {
			truths = append(truths, hol.Truth(p))
		}
		th = derive.Elim(th, derive.Intro(truths, kid))
	}
	return th
}

// assume returns a formula as a theorem from itself.
func (r *replayer) assume(t api.Term) kernel.Theorem { return derive.Assume(r.world, hol.Truth(t)) }

// eliminating returns the rule that eliminates a formula, with False as what is proved.
func (r *replayer) eliminating(s shape, t *Tree) kernel.Theorem {
	of := []api.TermBind{hol.For("P", s.args[0])}
	goal := "R"
	if s.rule == "exE" {
		goal = "Q"
	}
	of = append(of, hol.For(goal, hol.False()))
	switch s.kind {
	case Gamma:
		return r.library.With(s.rule, s.parts[0].Type, append(of, hol.For("x", t.Term))...)
	case Delta:
		return r.library.With(s.rule, s.parts[0].Type, of...)
	case Twice:
		return r.library.With(s.rule, api.Type{}, of...)
	}
	return r.library.With(s.rule, api.Type{}, append(of, hol.For("Q", s.args[1]))...)
}

// behindInstance returns the premise of a rule that an instance, not yet in its normal form, proves False, perhaps for all terms.
func (r *replayer) behindInstance(premise, instance, by api.Term, kid kernel.Theorem) kernel.Theorem {
	kid = derive.Intro([]api.Term{hol.Truth(instance)}, kid)
	f, all := term.IsAll(premise)
	if all {
		premise = term.Put(f.Kids[0], by)
	}
	raw, _, _ := term.IsImp(premise)
	th := derive.Elim(kid, r.maker.Normal(raw).Of(derive.Assume(r.world, raw)))
	th = derive.Intro([]api.Term{raw}, th)
	if all {
		th = derive.Must(kernel.AllIntro(by, th))
	}
	return th
}

// closed returns the theorem of False from formulas that contradict each other.
func (r *replayer) closed(branch []api.Term, t *Tree) kernel.Theorem {
	a, b := branch[t.At], branch[t.Other]
	var positive kernel.Theorem
	switch {
	case t.At != t.Other:
		if isNot(b, a) {
			a, b = b, a
		}
		positive = r.assume(b)
	default:
		by, _ := isWrong(a)
		if by == "" {
			return r.assume(a)
		}
		positive = r.library.With(by, api.Type{})
		if _, sides := term.Spine(a.Kids[1]); by == "refl" {
			typ, _ := term.TypeOf(sides[0])
			positive = r.library.With(by, typ, hol.For("x", sides[0]))
		}
		b = a.Kids[1]
	}
	th := derive.Elim(r.library.With("notE", api.Type{}, hol.For("P", b), hol.For("Q", hol.False())), r.assume(a))
	return derive.Elim(th, positive)
}
