package resolve

import (
	"slices"

	"triforium/api"
	"triforium/binds"
	"triforium/derive"
	"triforium/equate"
	"triforium/kernel"
	"triforium/term"
)

// derivation is a resolvent that is being made. All terms in it are behind an instantiation, and beta-normal.
type derivation struct {
	*question
	way
	premises []api.Term     // of the state
	pieces   []piece        // of the subgoal
	concl    api.Term       // of the subgoal
	rule     kernel.Theorem // none for assumptions
	from     []api.Term     // the premises of the rule
	to       api.Term       // its conclusion
	news     []api.Term     // the new subgoals
}

// resolvent returns the resolvent of a way by an instantiation, or why there is none.
func (q *question) resolvent(w way, i api.Inst) (th kernel.Theorem, e api.Errno) {
	defer func() {
		if x := recover(); x != nil {
			th, e = kernel.Theorem{}, derive.Failure(x)
		}
	}()
	s := newSizer(&i)
	q.wantSmall(s)
	d := derivation{question: q, way: w}
	whole := s.normal(i, w.whole)
	all, _ := premises(whole, len(q.premises)-1+len(w.goals))
	d.news = all[q.at : q.at+len(w.goals)]
	from := []kernel.Theorem{q.normalized(s, i, q.state)}
	d.premises, _ = premises(from[0].Prop(), len(q.premises))
	d.pieces, d.concl = along(q.pieces, d.premises[q.at])
	if q.rule.Is() {
		rule := q.normalized(s, i, q.rule)
		q.wantOneType(i)
		d.from, d.to = premises(rule.Prop(), len(q.from))
		from = append(from, intro(params(d.pieces), rule))
	}
	return derive.Named(derive.Through(q.world, from, d.theorem), whole), api.OK
}

// wantSmall looks whether the hypotheses become small enough; of propositions this is asked where they are made.
func (q *question) wantSmall(s sizer) {
	for _, th := range []kernel.Theorem{q.state, q.rule} {
		for _, h := range th.Hyps() {
			if !s.within(&h) {
				panic(api.ErrLarge)
			}
		}
	}
}

// normalized returns an instance of a theorem that states the beta normal form of the proposition.
func (q *question) normalized(s sizer, i api.Inst, th kernel.Theorem) kernel.Theorem {
	s.normal(i, th.Prop()) // leaves, if this is not to be had
	th = instance(i, th)
	return q.maker.Normal(th.Prop()).Of(th)
}

// wantOneType looks whether the sorts and types of variables are the same in all of the lifted rule.
func (q *question) wantOneType(i api.Inst) {
	var all []api.Term
	for _, t := range derive.Parts(q.rule) {
		all = append(all, term.Apply(i, t))
	}
	for _, p := range hyps(q.pieces) {
		all = append(all, term.Apply(i, p.term))
	}
	if e := binds.Differ(all); e != api.OK {
		panic(e)
	}
}

// theorem returns the state with the new subgoals in the place of the old one, from the state and the rule for all values of the parameters.
func (d *derivation) theorem(from []kernel.Theorem) kernel.Theorem {
	if d.question.rule.Is() {
		d.rule = d.maker.elim(params(d.pieces), from[1])
	}
	th := from[0]
	for _, a := range d.premises[:d.at] {
		th = derive.Elim(th, derive.Assume(d.world, a))
	}
	th = derive.Elim(th, intro(d.pieces, d.prove(d)))
	return derive.Intro(slices.Concat(d.premises[:d.at], d.news), th)
}

// same returns the equation of terms whose eta normal forms are equal.
func (d *derivation) same(a, b api.Term) equate.Equation { return d.maker.Alike(a, b) }

// assumed returns what is equal to the assumption at a place among the pieces, which is assumed.
func (d *derivation) assumed(i int, t api.Term) kernel.Theorem {
	h := d.pieces[i].term
	return d.same(h, t).Of(derive.Assume(d.world, h))
}

// applied returns what a rule states behind its premises from one on, where the new subgoals are assumed.
func (d *derivation) applied(rule kernel.Theorem, first int) kernel.Theorem {
	for i, a := range d.from[first:] {
		l, _ := along(d.goals[i].pieces, d.news[i])
		inner, _ := along(d.goals[i].inner, a)
		rule = derive.Elim(rule, intro(inner, d.maker.elim(l, derive.Assume(d.world, d.news[i]))))
	}
	return rule
}

// further returns the conclusion of the last one of the new subgoals, which has a further assumption that a theorem states.
func (d *derivation) further(th kernel.Theorem) kernel.Theorem {
	last := len(d.news) - 1
	l, _ := along(d.goals[last].pieces, d.news[last])
	return derive.Elim(d.maker.elim(l[:len(l)-1], derive.Assume(d.world, d.news[last])), th)
}
