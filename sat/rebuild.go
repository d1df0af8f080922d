package sat

import (
	"slices"

	"triforium/api"
	"triforium/derive"
	"triforium/hol"
	"triforium/kernel"
	"triforium/term"
)

// builder makes theorems of proofs. A clause is there the theorem of False from the contraries of its literals; one that is used more than once is assumed until all is made, so that its proof is made once.
type builder struct {
	world   kernel.World
	library *hol.Library
	atoms   []api.Term
}

// assume returns a term as a theorem from itself.
func (b *builder) assume(t api.Term) kernel.Theorem { return derive.Assume(b.world, hol.Truth(t)) }

// rule returns a rule for terms P and Q, with some premises taken from it.
func (b *builder) rule(name string, p, q api.Term, l ...kernel.Theorem) kernel.Theorem {
	of := []api.TermBind{hol.For("P", p)}
	if q.Op != 0 {
		of = append(of, hol.For("Q", q))
	}
	if p.Op == 0 {
		of = nil
	}
	th := b.library.With(name, api.Type{}, of...)
	for _, x := range l {
		th = derive.Elim(th, x)
	}
	return th
}

// contraries returns what a clause is refuted by.
func (b *builder) contraries(c Clause) []api.Term {
	var l []api.Term
	for _, x := range c {
		t := b.atoms[literal(x).atom()-1]
		if x > 0 {
			t = hol.Not(t)
		}
		l = append(l, hol.Truth(t))
	}
	return l
}

// given returns the theorem of a clause that is assumed.
func (b *builder) given(c Clause) kernel.Theorem {
	if len(c) == 0 {
		return b.assume(hol.False())
	}
	var refuted func(c Clause, t api.Term) kernel.Theorem
	refuted = func(c Clause, t api.Term) kernel.Theorem {
		if len(c) == 1 {
			return b.against(c[0], b.assume(t))
		}
		p, q := t.Kids[0].Kids[1], t.Kids[1]
		th := derive.Must(kernel.Instantiate(api.Inst{Terms: []api.TermBind{hol.For("R", hol.False())}}, b.rule("disjE", p, q)))
		th = derive.Elim(th, b.assume(t))
		th = derive.Elim(th, derive.Intro([]api.Term{hol.Truth(p)}, b.against(c[0], b.assume(p))))
		return derive.Elim(th, derive.Intro([]api.Term{hol.Truth(q)}, refuted(c[1:], q)))
	}
	return refuted(c, b.term(c))
}

// against returns the theorem of False from a literal's theorem and its contrary.
func (b *builder) against(x int, th kernel.Theorem) kernel.Theorem {
	t := b.atoms[literal(x).atom()-1]
	if x > 0 {
		return b.rule("notE", t, hol.False(), b.assume(hol.Not(t)), th)
	}
	return b.rule("notE", t, hol.False(), th, b.assume(t))
}

// term returns the term of a clause.
func (b *builder) term(c Clause) api.Term {
	t := hol.False()
	for i, x := range slices.Backward(c) {
		y := b.atoms[literal(x).atom()-1]
		if x < 0 {
			y = hol.Not(y)
		}
		if i == len(c)-1 {
			t = y
		} else {
			t = hol.Or(y, t)
		}
	}
	return t
}

// needed returns hol.Truth of the terms of the clauses that a trimmed proof needs.
func (b *builder) needed(l []Clause, p []Step) []api.Term {
	var r []api.Term
	used := uses(l, p)
	for i, c := range l {
		if used[i] > 0 {
			r = append(r, hol.Truth(b.term(c)))
		}
	}
	return r
}

// uses returns how often clauses are used by a trimmed proof; the empty clause is used once.
func uses(l []Clause, p []Step) []int {
	r := make([]int, len(l)+len(p))
	for _, s := range p {
		r[s.A]++
		r[s.B]++
	}
	if len(p) > 0 {
		r[len(r)-1]++
	} else if i := slices.IndexFunc(l, func(c Clause) bool { return len(c) == 0 }); i >= 0 {
		r[i]++
	}
	return r
}

// refute returns the theorem of False that a trimmed proof makes, where a function gives the theorems of the clauses.
func (b *builder) refute(l []Clause, p []Step, given func(i int) kernel.Theorem) kernel.Theorem {
	used := uses(l, p)
	made, _, _ := Replay(l, p)
	all := append(slices.Clone(l), made...)
	theorems := make([]kernel.Theorem, len(all))
	use := func(i int) kernel.Theorem {
		if used[i] == 1 {
			return theorems[i]
		}
		th := derive.Assume(b.world, b.prop(all[i]))
		for _, t := range b.contraries(all[i]) {
			th = derive.Elim(th, derive.Assume(b.world, t))
		}
		return th
	}
	last := 0
	for i := range all {
		switch {
		case used[i] == 0:
			continue
		case i < len(l):
			theorems[i] = given(i)
		default:
			s := p[i-len(l)]
			theorems[i] = b.resolved(use(s.A), use(s.B), b.atoms[s.Atom-1])
		}
		if len(all[i]) == 0 {
			last = i
		}
	}
	th := theorems[last]
	for i := len(all) - 1; i >= 0; i-- {
		if used[i] > 1 {
			th = derive.Must(kernel.ImpIntro(b.prop(all[i]), th))
			th = derive.Elim(th, derive.Intro(b.contraries(all[i]), theorems[i]))
		}
	}
	return th
}

// prop returns the proposition that the contraries of a clause lead to False.
func (b *builder) prop(c Clause) api.Term {
	t := hol.Truth(hol.False())
	for _, a := range slices.Backward(b.contraries(c)) {
		t = term.Imp(a, t)
	}
	return t
}

// resolved returns the theorem of a resolvent of two clauses by an atom.
func (b *builder) resolved(first, second kernel.Theorem, atom api.Term) kernel.Theorem {
	not := b.rule("notI", atom, api.Term{}, derive.Intro([]api.Term{hol.Truth(atom)}, second))
	return derive.Elim(derive.Intro([]api.Term{hol.Truth(hol.Not(atom))}, first), not)
}

// defined returns the theorem of a clause of an encoding: from the whole proposition, or by its reason.
func (b *builder) defined(x *encoding, i int) kernel.Theorem {
	r := x.reasons[i]
	if r.rule == "" {
		return b.rule("notE", x.whole, hol.False(), b.valued(x.whole, false), b.assume(x.whole))
	}
	var l []kernel.Theorem
	for _, c := range r.clash {
		l = append(l, b.valued(c.of, c.value))
	}
	return b.rule(r.rule, r.p, r.q, l...)
}

// valued returns the theorem that a term is true, or that it is not, from the contrary of its literal.
func (b *builder) valued(t api.Term, value bool) kernel.Theorem {
	name, args, ok := hol.Connective(t)
	switch {
	case !ok || name != "Not":
		if value {
			return b.assume(t)
		}
		return b.assume(hol.Not(t))
	case value:
		return b.valued(args[0], false)
	}
	return b.rule("not_not_intro", args[0], api.Term{}, b.valued(args[0], true))
}
