package resolve

import (
	"iter"
	"slices"

	"triforium/api"
	"triforium/derive"
	"triforium/kernel"
	"triforium/pattern"
	"triforium/term"
	"triforium/unify"
)

// maxUnifiers is how many unifiers are looked at for each way to resolve.
const maxUnifiers = 1000

// question is what a call asks, made ready: the subgoal taken apart, and the rule raised over its parameters.
type question struct {
	*call
	maker    *maker
	rule     kernel.Theorem
	pieces   []piece // of the subgoal
	concl    api.Term
	premises []api.Term // of the state
	behind   api.Term   // what the state states behind its premises
	from     []api.Term // the premises of the rule
	to       api.Term   // its conclusion
}

// way is one way to resolve: the terms that are to be made equal, the new subgoals, and what proves the old one, where these are assumed.
type way struct {
	pairs []pattern.Pair
	goals []goal
	prove func(*derivation) kernel.Theorem
	whole api.Term // what the state states with the new subgoals; zero, if this is far too large
}

// goal is a new subgoal.
type goal struct {
	pieces []piece // flat
	concl  api.Term
	inner  []piece // those of its conclusion as a premise of the rule, in their order
}

// resolvents yields the states that come from a call that has no error.
func (c *call) resolvents() iter.Seq[kernel.Theorem] {
	return func(yield func(kernel.Theorem) bool) {
		if c.hopeless() {
			return
		}
		q, ok := c.ready()
		if !ok {
			return
		}
		for w := range q.ways() {
			if !q.resolve(w, yield) {
				return
			}
		}
	}
}

// resolve yields the resolvents of a way; false, if no more are wanted.
func (q *question) resolve(w way, yield func(kernel.Theorem) bool) bool {
	if slices.ContainsFunc(w.pairs, func(p pattern.Pair) bool { return clashes(&p.A, &p.B) }) {
		return true
	}
	if w.whole.Op == 0 || !within(&w.whole) {
		return true
	}
unifiers:
	for u := range first(unify.All(q.world.Theory(), w.pairs, q.depth), maxUnifiers) {
		if len(u.Flex) > 0 {
			continue unifiers
		}
		th, e := q.resolvent(w, u.Inst)
		if e != api.OK {
			continue unifiers
		}
		if !yield(th) {
			return false
		}
	}
	return true
}

// first yields the first elements of a sequence, at most so many.
func first[T any](s iter.Seq[T], most int) iter.Seq[T] {
	return func(yield func(T) bool) {
		n := 0
		for x := range s {
			n++
			if !yield(x) || n == most {
				return
			}
		}
	}
}

// ready makes the question of a call; false, if there are no resolvents.
func (c *call) ready() (r *question, ok bool) {
	defer func() {
		if recover() != nil {
			r, ok = nil, false
		}
	}()
	if !c.limited() {
		return nil, false
	}
	q := question{call: c, maker: newMaker(c.world, c.state)}
	if c.kind != byAssumption {
		q.maker = newMaker(c.world, c.rule, c.state)
	}
	q.premises, q.behind = term.Strip(c.state.Prop())
	q.pieces, q.concl = q.maker.open(q.premises[c.at])
	if c.kind != byAssumption {
		q.rule = raised(c.rule, behind(c.state), params(q.pieces))
		q.from, q.to = term.Strip(q.rule.Prop())
	}
	return &q, true
}

// ways yields the ways to resolve, in order.
func (q *question) ways() iter.Seq[way] {
	return func(yield func(way) bool) {
		if q.kind == Rule {
			yield(q.whole(q.byRule()))
			return
		}
		if q.kind != byAssumption && len(q.from) == 0 {
			return
		}
		for i, p := range q.pieces {
			if !p.param && !yield(q.whole(q.by(i))) {
				return
			}
		}
	}
}

// byRule returns the way by which the premises of the rule are the new subgoals.
func (q *question) byRule() way {
	w := way{pairs: []pattern.Pair{q.pair(q.to, q.concl)}}
	for _, a := range q.from {
		w.goals = append(w.goals, q.goal(q.pieces, a))
	}
	w.prove = func(d *derivation) kernel.Theorem { return d.same(d.to, d.concl).Of(d.applied(d.rule, 0)) }
	return w
}

// by returns the way with the assumption at a place among the pieces.
func (q *question) by(i int) way {
	h := q.pieces[i].term
	if q.kind == byAssumption {
		return way{pairs: []pattern.Pair{q.pair(h, q.concl)}, prove: func(d *derivation) kernel.Theorem { return d.assumed(i, d.concl) }}
	}
	rest := slices.Delete(slices.Clone(q.pieces), i, i+1)
	w := way{pairs: []pattern.Pair{q.pair(q.from[0], h)}}
	for _, a := range q.from[1:] {
		w.goals = append(w.goals, q.goal(rest, a))
	}
	solved := func(d *derivation) kernel.Theorem {
		return d.applied(derive.Elim(d.rule, d.assumed(i, d.from[0])), 1)
	}
	if q.kind == Erule {
		w.pairs = slices.Insert(w.pairs, 0, q.pair(q.to, q.concl))
		w.prove = func(d *derivation) kernel.Theorem { return d.same(d.to, d.concl).Of(solved(d)) }
		return w
	}
	w.goals = append(w.goals, goal{pieces: flat(append(rest, piece{term: q.to})), concl: q.concl})
	w.prove = func(d *derivation) kernel.Theorem { return d.further(solved(d)) }
	return w
}

// pair returns the pair of two terms, as functions of the parameters.
func (q *question) pair(a, b api.Term) pattern.Pair {
	return pattern.Pair{A: function(q.pieces, a), B: function(q.pieces, b)}
}

// goal returns the new subgoal of a premise of the rule behind some pieces of the old one.
func (q *question) goal(l []piece, premise api.Term) goal {
	inner, concl := q.maker.open(premise)
	return goal{flat(slices.Concat(l, inner)), concl, inner}
}

// whole adds to a way what the state states with its new subgoals.
func (q *question) whole(w way) way {
	all, nodes := slices.Clone(q.premises[:q.at]), 0
	for _, g := range w.goals {
		for _, p := range hyps(g.pieces) {
			n, _ := term.Size(p.term)
			nodes += n
		}
		if nodes > maxNodes {
			return w
		}
		all = append(all, closed(g.pieces, g.concl))
	}
	all = append(all, q.premises[q.at+1:]...)
	w.whole = q.behind
	for _, a := range slices.Backward(all) {
		w.whole = imp(a, w.whole)
	}
	return w
}
