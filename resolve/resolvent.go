package resolve

import (
	"slices"

	"triforium/api"
	"triforium/binds"
	"triforium/derive"
	"triforium/kernel"
	"triforium/term"
)

// derivation is a resolvent that is being made. All terms in it are behind an instantiation, and beta-normal.
type derivation struct {
	*question
	way
	state    kernel.Theorem
	premises []api.Term     // of the state
	pieces   []piece        // of the subgoal
	concl    api.Term       // of the subgoal
	rule     kernel.Theorem // none for assumptions
	from     []api.Term     // the premises of the rule
	to       api.Term       // its conclusion
	news     []api.Term     // the new subgoals
}

// resolvent returns the resolvent of a way by an instantiation, or why there is none.
func (q *question) resolvent(w way, i api.Inst) (th kernel.Theorem, e api.Errno) {
	defer func() {
		if x := recover(); x != nil {
			th, e = kernel.Theorem{}, derive.Failure(x)
		}
	}()
	s := newSizer(&i)
	q.wantSmall(s)
	d := derivation{question: q, way: w}
	whole := s.normal(i, w.whole)
	all, _ := premises(whole, len(q.premises)-1+len(w.goals))
	d.news = all[q.at : q.at+len(w.goals)]
	state := instance(i, q.state)
	d.state = q.normalized(s, i, state, q.state.Prop())
	d.premises, _ = premises(d.state.Prop(), len(q.premises))
	d.pieces, d.concl = along(q.pieces, d.premises[q.at])
	wanted := state.Hyps()
	if q.rule.Is() {
		rule := instance(i, q.rule)
		q.wantOneType(rule, i)
		d.rule = q.normalized(s, i, rule, q.rule.Prop())
		d.from, d.to = premises(d.rule.Prop(), len(q.from))
		wanted = append(wanted, rule.Hyps()...)
	}
	return derive.Named(derive.WithHyps(d.theorem(), wanted), whole), api.OK
}

// wantSmall looks whether the hypotheses become small enough; of propositions this is asked where they are made.
func (q *question) wantSmall(s sizer) {
	for _, th := range []kernel.Theorem{q.state, q.rule} {
		for _, h := range th.Hyps() {
			if !s.within(&h) {
				panic(api.ErrLarge)
			}
		}
	}
}

// normalized returns an instance of a theorem that states a proposition, so that it states the beta normal form.
func (q *question) normalized(s sizer, i api.Inst, th kernel.Theorem, prop api.Term) kernel.Theorem {
	s.normal(i, prop) // leaves, if this is not to be had
	return q.maker.normal(th.Prop()).of(th)
}

// wantOneType looks whether the sorts and types of variables are the same in all of the lifted rule.
func (q *question) wantOneType(rule kernel.Theorem, i api.Inst) {
	all := parts(rule)
	for _, p := range hyps(q.pieces) {
		all = append(all, term.Apply(i, p.term))
	}
	if e := binds.Differ(all); e != api.OK {
		panic(e)
	}
}

// theorem returns the state with the new subgoals in the place of the old one.
func (d *derivation) theorem() kernel.Theorem {
	th := d.state
	for _, a := range d.premises[:d.at] {
		th = derive.Elim(th, derive.Assume(d.world, a))
	}
	th = derive.Elim(th, intro(d.pieces, d.prove(d)))
	return derive.Intro(slices.Concat(d.premises[:d.at], d.news), th)
}

// same returns the equation of terms whose eta normal forms are equal.
func (d *derivation) same(a, b api.Term) equation { return d.maker.same(a, b) }

// assumed returns what is equal to the assumption at a place among the pieces, which is assumed.
func (d *derivation) assumed(i int, t api.Term) kernel.Theorem {
	h := d.pieces[i].term
	return d.same(h, t).of(derive.Assume(d.world, h))
}

// applied returns what a rule states behind its premises from one on, where the new subgoals are assumed.
func (d *derivation) applied(rule kernel.Theorem, first int) kernel.Theorem {
	for i, a := range d.from[first:] {
		l, _ := along(d.goals[i].pieces, d.news[i])
		inner, _ := along(d.goals[i].inner, a)
		rule = derive.Elim(rule, intro(inner, d.maker.elim(l, derive.Assume(d.world, d.news[i]))))
	}
	return rule
}

// further returns the conclusion of the last one of the new subgoals, which has a further assumption that a theorem states.
func (d *derivation) further(th kernel.Theorem) kernel.Theorem {
	last := len(d.news) - 1
	l, _ := along(d.goals[last].pieces, d.news[last])
	return derive.Elim(d.maker.elim(l[:len(l)-1], derive.Assume(d.world, d.news[last])), th)
}
