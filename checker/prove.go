package checker

import (
	"slices"
	"strings"

	"triforium/api"
)

// claim is a hypothesis or a proposition with its variables.
type claim struct {
	term api.Term
	vars variables
}

// newClaim wants a term to be within the limits of theorems, and each variable in it to be the same everywhere.
func newClaim(t api.Term) *claim {
	sizeOf(&t)
	fitTypes(&t)
	c := &claim{t, variables{}}
	c.vars.addTerm(&c.term)
	return c
}

// fitTypes wants the types in a term to be within the limits of types.
func fitTypes(t *api.Term) {
	want(fitsType(&t.Type, api.MaxType))
	for i := range t.Kids {
		fitTypes(&t.Kids[i])
	}
}

// fact is what a proof proves. Facts share memory with each other, and with the proof.
type fact struct {
	hyps    []*claim // in order, each once
	prop    *claim
	oracles []string // in order, each once
}

// sequent returns a fact in new memory.
func (f *fact) sequent() Sequent {
	s := Sequent{Prop: copyTerm(f.prop.term), Oracles: slices.Clone(f.oracles)}
	for _, h := range f.hyps {
		s.Hyps = append(s.Hyps, copyTerm(h.term))
	}
	return s
}

// claims returns the hypotheses and the proposition.
func (f *fact) claims() []*claim { return append(slices.Clone(f.hyps), f.prop) }

// agree wants each variable to be the same in all claims.
func agree(l []*claim) {
	if len(l) < 2 {
		return
	}
	all := variables{}
	for _, c := range l {
		for x, t := range c.vars {
			all.add(x, t)
		}
	}
}

// newFact wants a fact to be within the limits of theorems.
func newFact(hyps []*claim, prop api.Term, oracles []string) *fact {
	want(len(hyps) <= api.MaxHyps)
	f := &fact{hyps, newClaim(prop), oracles}
	agree(f.claims())
	return f
}

// ordered returns claims in order, each once.
func ordered(l []*claim) []*claim {
	compare := func(a, b *claim) int { return compareTerms(&a.term, &b.term) }
	l = slices.Clone(l)
	slices.SortStableFunc(l, compare)
	return slices.CompactFunc(l, func(a, b *claim) bool { return compare(a, b) == 0 })
}

// kidsOf returns how many facts the rule of a kind takes; false, if there is no such kind.
func kidsOf(kind int) (int, bool) {
	switch kind {
	case api.ByAxiom, api.ByOracle, api.Assume, api.Reflexive, api.Beta, api.Eta:
		return 0, true
	case api.ImpIntro, api.AllIntro, api.AllElim, api.Symmetric, api.Abstraction, api.Instantiate, api.Generalize:
		return 1, true
	case api.ImpElim, api.Transitive, api.Combination, api.EqIntro, api.EqElim:
		return 2, true
	}
	return 0, false
}

// prove returns what a proof proves.
func (w *world) prove(p *api.Proof) *fact {
	kids, ok := kidsOf(p.Op)
	want(ok && len(p.Kids) == kids)
	switch kids {
	case 0:
		return w.begin(p)
	case 1:
		return w.goOn(p, w.prove(&p.Kids[0]))
	}
	a, b := w.prove(&p.Kids[0]), w.prove(&p.Kids[1])
	agree(append(a.claims(), b.claims()...))
	hyps := ordered(append(slices.Clone(a.hyps), b.hyps...))
	oracles := append(slices.Clone(a.oracles), b.oracles...)
	slices.SortFunc(oracles, strings.Compare)
	return newFact(hyps, combined(p.Op, &a.prop.term, &b.prop.term), slices.Compact(oracles))
}

// begin returns what a node without Kids proves.
func (w *world) begin(p *api.Proof) *fact {
	switch p.Op {
	case api.ByAxiom:
		prop, ok := w.axioms[p.Name]
		want(ok)
		return newFact(nil, *prop, nil)
	case api.ByOracle:
		w.rightProp(&p.Term)
		want(slices.Contains(w.oracles, p.Name))
		return newFact(nil, p.Term, []string{p.Name})
	case api.Assume:
		w.rightProp(&p.Term)
		return newFact([]*claim{newClaim(p.Term)}, p.Term, nil)
	}
	typ := w.rightTerm(&p.Term)
	other := p.Term // Reflexive
	switch p.Op {
	case api.Beta:
		want(p.Term.Op == api.App && p.Term.Kids[0].Op == api.Abs)
		other = replaced(&p.Term.Kids[0].Kids[0], &p.Term.Kids[1])
	case api.Eta:
		want(p.Term.Op == api.Abs && p.Term.Kids[0].Op == api.App)
		body := &p.Term.Kids[0]
		want(body.Kids[1].Op == api.Bound && body.Kids[1].Num == 0 && !hasBound(&body.Kids[0], 0))
		other = body.Kids[0] // without loose bound variables, since there is nothing around
	}
	return newFact(nil, equation(typ, p.Term, other), nil)
}

// goOn returns what a node with one Kid proves, which proves a fact.
func (w *world) goOn(p *api.Proof, f *fact) *fact {
	switch p.Op {
	case api.Symmetric:
		a, b, typ := equationOf(&f.prop.term)
		return newFact(f.hyps, equation(*typ, *b, *a), f.oracles)
	case api.Instantiate:
		return w.instantiated(&p.Inst, f)
	case api.Generalize:
		return generalized(p, f)
	}
	typ := w.rightTerm(&p.Term)
	agree(append(f.claims(), newClaim(p.Term)))
	switch p.Op {
	case api.ImpIntro:
		want(isProp(&typ))
		hyps := slices.DeleteFunc(slices.Clone(f.hyps), func(h *claim) bool { return sameTerm(&h.term, &p.Term) })
		return newFact(hyps, implication(p.Term, f.prop.term), f.oracles)
	case api.AllElim:
		all := &f.prop.term
		want(all.Op == api.App && isConst(&all.Kids[0], "all") && all.Kids[1].Op == api.Abs && sameType(&all.Kids[1].Type, &typ))
		return newFact(f.hyps, replaced(&all.Kids[1].Kids[0], &p.Term), f.oracles)
	}
	want(p.Term.Op == api.Free && !slices.ContainsFunc(f.hyps, func(h *claim) bool { return h.vars[freeOf(p.Term.Name)] != nil }))
	if p.Op == api.AllIntro {
		return newFact(f.hyps, universal(&p.Term, &f.prop.term), f.oracles)
	}
	a, b, of := equationOf(&f.prop.term)
	return newFact(f.hyps, equation(function(p.Term.Type, *of), abstracted(&p.Term, a), abstracted(&p.Term, b)), f.oracles)
}

// combined returns what the rule of a kind makes of two propositions.
func combined(kind int, p, q *api.Term) api.Term {
	switch kind {
	case api.ImpElim:
		a, b := implicationOf(p)
		want(sameTerm(a, q))
		return *b
	case api.EqElim:
		a, b, _ := equationOf(p)
		want(sameTerm(a, q))
		return *b
	case api.EqIntro:
		a, b := implicationOf(p)
		c, d := implicationOf(q)
		want(sameTerm(a, d) && sameTerm(b, c))
		return equation(api.Type{Op: api.TCon, Name: "prop"}, *a, *b)
	case api.Transitive:
		a, b, typ := equationOf(p)
		c, d, _ := equationOf(q)
		want(sameTerm(b, c))
		return equation(*typ, *a, *d)
	}
	f, g, functions := equationOf(p)
	a, b, typ := equationOf(q)
	want(functions.Op == api.TCon && functions.Name == "fun" && sameType(&functions.Args[0], typ))
	return equation(functions.Args[1], apply(*f, *a), apply(*g, *b))
}
