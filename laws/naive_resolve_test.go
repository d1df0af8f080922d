package laws

import (
	"slices"

	"triforium/api"
	"triforium/kernel"
	"triforium/pattern"
	"triforium/resolve"
	"triforium/term"
	"triforium/theory"
	"triforium/types"
	"triforium/unify"
)

// claim is what a theorem states.
type claim struct {
	hyps    []api.Term
	prop    api.Term
	oracles []string
}

func statedBy(t kernel.Theorem) claim { return claim{t.Hyps(), t.Prop(), t.Oracles()} }

// lifting is a rule and a subgoal as chapter 12 speaks of them, by terms alone: bound variables stand for the parameters.
type lifting struct {
	thy         api.Theory
	state, rule claim
	at          int
	goal        resolve.Subgoal
	old         []api.Term // the premises of the state
	concl       api.Term
	from        []api.Term // the premises of the rule, with '
	to          api.Term
}

// newLifting lifts a rule (or none, for assumptions) over a subgoal.
func newLifting(rule kernel.Theorem, at int, state kernel.Theorem) *lifting {
	l := lifting{thy: state.Theory(), state: statedBy(state), at: at}
	if rule.Is() && theory.Within(l.thy, rule.Theory()) {
		l.thy = rule.Theory()
	}
	l.old, l.concl = term.Strip(state.Prop())
	l.goal = resolve.Split(l.old[at])
	if !rule.Is() {
		return &l
	}
	n := 0
	for _, t := range append(state.Hyps(), state.Prop()) {
		n = max(n, term.MaxIndex(t)+1)
	}
	l.rule = statedBy(rule)
	l.rule.prop = term.Raise(l.rule.prop, n)
	for i := range l.rule.hyps {
		l.rule.hyps[i] = term.Raise(l.rule.hyps[i], n)
	}
	var i api.Inst
	k := len(l.goal.Params)
	for _, v := range term.Vars(l.rule.prop) {
		to := v
		for _, p := range slices.Backward(l.goal.Params) {
			to.Type = fun(p.Type, to.Type)
		}
		for b := range k {
			to = app(to, bound(k-1-b))
		}
		i.Terms = append(i.Terms, api.TermBind{Name: v.Name, Index: v.Num, To: to})
	}
	l.from, l.to = term.Strip(term.Apply(i, l.rule.prop))
	return &l
}

// function returns a term as a function of the parameters.
func (l *lifting) function(t api.Term) api.Term {
	for _, p := range slices.Backward(l.goal.Params) {
		t = api.Term{Op: api.Abs, Name: p.Name, Type: p.Type, Kids: []api.Term{t}}
	}
	return t
}

// flat returns the new subgoal of a premise of the rule behind some assumptions.
func (l *lifting) flat(hyps []api.Term, premise api.Term) api.Term {
	in := resolve.Split(premise)
	s := resolve.Subgoal{Params: slices.Concat(l.goal.Params, in.Params), Concl: in.Concl}
	for _, h := range hyps {
		s.Hyps = append(s.Hyps, term.Lift(h, len(in.Params)))
	}
	s.Hyps = append(s.Hyps, in.Hyps...)
	return resolve.Whole(s)
}

// lifted returns the proposition of the lifted rule.
func (l *lifting) lifted() api.Term {
	whole := func(t api.Term) api.Term {
		return resolve.Whole(resolve.Subgoal{Params: l.goal.Params, Hyps: l.goal.Hyps, Concl: t})
	}
	t := whole(l.to)
	for _, a := range slices.Backward(l.from) {
		t = term.Imp(whole(a), t)
	}
	return t
}

// resolvents returns what the resolvents of a kind state; 0 for those by assumption.
func (l *lifting) resolvents(kind, depth int) []claim {
	var all []claim
	add := func(pairs []pattern.Pair, news []api.Term) {
		units, _, e := unify.First(l.thy, pairs, depth, 1000)
		if e != api.OK {
			return
		}
		for _, u := range units {
			if len(u.Flex) == 0 {
				if r, ok := l.resolvent(u.Inst, news); ok {
					all = append(all, r)
				}
			}
		}
	}
	pair := func(a, b api.Term) pattern.Pair { return pattern.Pair{A: l.function(a), B: l.function(b)} }
	var news []api.Term
	if kind == resolve.Rule {
		for _, a := range l.from {
			news = append(news, l.flat(l.goal.Hyps, a))
		}
		add([]pattern.Pair{pair(l.to, l.goal.Concl)}, news)
		return all
	}
	for j, h := range l.goal.Hyps {
		rest := slices.Delete(slices.Clone(l.goal.Hyps), j, j+1)
		news = nil
		if kind == 0 {
			add([]pattern.Pair{pair(h, l.goal.Concl)}, nil)
			continue
		}
		if len(l.from) == 0 {
			continue
		}
		for _, a := range l.from[1:] {
			news = append(news, l.flat(rest, a))
		}
		pairs := []pattern.Pair{pair(l.from[0], h)}
		if kind == resolve.Erule {
			pairs = slices.Insert(pairs, 0, pair(l.to, l.goal.Concl))
		} else {
			news = append(news, resolve.Whole(resolve.Subgoal{Params: l.goal.Params, Hyps: append(rest, l.to), Concl: l.goal.Concl}))
		}
		add(pairs, news)
	}
	return all
}

// resolvent returns what the state becomes with new subgoals behind an instantiation, if it is one.
func (l *lifting) resolvent(i api.Inst, news []api.Term) (claim, bool) {
	prop := l.concl
	for _, a := range slices.Backward(slices.Concat(l.old[:l.at], news, l.old[l.at+1:])) {
		prop = term.Imp(a, prop)
	}
	ofState := append(slices.Clone(l.state.hyps), l.state.prop)
	ofRule := append(slices.Clone(l.rule.hyps), l.lifted())
	if len(l.rule.prop.Kids) == 0 {
		ofRule = nil
	}
	for _, all := range [][]api.Term{ofState, ofRule} {
		if !l.fits(i, all) {
			return claim{}, false
		}
	}
	r := claim{oracles: slices.Concat(l.state.oracles, l.rule.oracles)}
	slices.Sort(r.oracles)
	r.oracles = slices.Compact(r.oracles)
	for _, h := range slices.Concat(l.state.hyps, l.rule.hyps) {
		r.hyps = append(r.hyps, term.Apply(i, h))
	}
	slices.SortFunc(r.hyps, term.Compare)
	r.hyps = slices.CompactFunc(r.hyps, term.Equal)
	var e api.Errno
	r.prop, e = term.Norm(term.Apply(i, prop), 1000)
	return r, e == api.OK && agree(append(slices.Clone(r.hyps), r.prop))
}

// fits reports whether an instantiation fits to the variables of terms, and these agree behind it.
func (l *lifting) fits(i api.Inst, all []api.Term) bool {
	var made []api.Term
	for _, t := range all {
		for _, v := range term.TypeVariables(t) {
			if to := types.Apply(i.Types, v); v.Op == api.TVar && !types.Equal(to, v) && !types.HasSort(l.thy, to, v.Sort) {
				return false
			}
		}
		for _, v := range term.Vars(t) {
			u, e := term.Check(l.thy, term.Apply(i, v))
			if e != api.OK || !types.Equal(u, types.Apply(i.Types, v.Type)) {
				return false
			}
		}
		made = append(made, term.Apply(i, t))
	}
	return agree(made)
}

// agree reports whether variables of terms have one sort, or one type, each.
func agree(l []api.Term) bool {
	sorts := types.Sorts{}
	typed := map[string]api.Type{}
	for _, t := range l {
		for n := range term.Nodes(&t) {
			if !sorts.Add(&n.Type) {
				return false
			}
			if n.Op == api.Free || n.Op == api.Var {
				k := must(term.Text(api.Term{Op: n.Op, Name: n.Name, Num: n.Num, Type: prop()}))
				if u, ok := typed[k]; ok && !types.Equal(u, n.Type) {
					return false
				}
				typed[k] = n.Type
			}
		}
	}
	return true
}
