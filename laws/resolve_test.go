package laws

import (
	"slices"
	"testing"

	"triforium/api"
	"triforium/checker"
	"triforium/kernel"
	"triforium/resolve"
	"triforium/term"
)

// subgoals makes random states and rules.
type subgoals struct {
	*grower
	thy api.Theory
}

func newSubgoals(seed int64) *subgoals {
	g := newGrower(seed)
	g.patterns = seed%3 != 0
	if seed%4 == 0 {
		g.loosened()
	}
	return &subgoals{g, theories()[1]}
}

// prop returns a random proposition whose parts are terms with a few Frees.
func (s *subgoals) prop(depth int) api.Term { return s.term(prop(), nil, depth) }

// subgoal returns a random subgoal, whose parameters and assumptions stand in any order.
func (s *subgoals) subgoal(pieces, depth int) api.Term {
	if pieces == 0 {
		return s.prop(depth)
	}
	rest := s.subgoal(pieces-1, depth)
	if s.pick(5) < 3 {
		h := s.prop(depth)
		if s.pick(6) == 0 {
			h = s.subgoal(1+s.pick(2), 1)
		}
		return term.Imp(h, rest)
	}
	l := term.Frees(rest)
	if len(l) == 0 || s.pick(8) == 0 {
		return term.All(api.Term{Op: api.Free, Name: "z", Type: s.typ()}, rest)
	}
	return term.All(l[s.pick(len(l))], rest)
}

// theorem returns a theorem that an oracle, or an assumption, states.
func (s *subgoals) theorem(t api.Term) kernel.Theorem {
	var hyps []api.Term
	for s.pick(4) == 0 {
		hyps = append(hyps, s.prop(1))
	}
	if s.pick(4) == 0 { // one that is equal to a part
		l, c := term.Strip(t)
		l = append(l, c)
		hyps = append(hyps, l[s.pick(len(l))])
	}
	whole := t
	for _, h := range hyps {
		whole = term.Imp(h, whole)
	}
	th := must(kernel.Oracle(s.thy, []string{"trust", "guess"}[s.pick(2)], whole))
	for range hyps {
		a, _, _ := term.IsImp(th.Prop())
		th = must(kernel.ImpElim(th, must(kernel.Assume(s.thy, a))))
	}
	return th
}

// state returns a random state.
func (s *subgoals) state() kernel.Theorem {
	t := s.prop(2)
	if s.pick(3) > 0 {
		t = term.Protect(t)
	}
	for range 1 + s.pick(3) {
		t = term.Imp(s.subgoal(s.pick(5), 2), t)
	}
	if s.pick(3) == 0 { // a redex
		t = app(abs(prop(), term.Imp(bound(0), s.prop(1))), t)
		t, _ = term.Beta(t)
		t = term.Imp(app(abs(con("nat"), s.prop(1)), free("y", con("nat"))), t)
	}
	return s.theorem(t)
}

func free(name string, t api.Type) api.Term { return api.Term{Op: api.Free, Name: name, Type: t} }

// general returns a term in which variables stand for all that has parameters.
func (s *subgoals) general(t api.Term) api.Term {
	if s.pick(5) == 0 && t.Op != api.Abs {
		return s.unknown(t)
	}
	head, args := term.Spine(t)
	if head.Op != api.Const && head.Op != api.Free || head.Op == api.Free && isParameter(head) {
		if !slices.ContainsFunc(term.Frees(t), isParameter) {
			return t
		}
		return s.unknown(t)
	}
	for i := range args {
		args[i] = s.general(args[i])
	}
	return app(head, args...)
}

func isParameter(t api.Term) bool { return len(t.Name) > 3 && t.Name[:3] == "par" }

// unknown returns a variable for a term, perhaps applied to one of its parts.
func (s *subgoals) unknown(t api.Term) api.Term {
	u := must(term.TypeOf(t))
	if s.pick(4) == 0 && !s.patterns {
		p := s.part(t, nil)
		if !slices.ContainsFunc(term.Frees(p), isParameter) {
			v := fun(must(term.TypeOf(p)), u)
			return app(api.Term{Op: api.Var, Name: "f" + shortName(v), Num: s.pick(2), Type: v}, p)
		}
	}
	return api.Term{Op: api.Var, Name: "u" + shortName(u), Num: s.pick(4), Type: u}
}

// rule returns a rule that fits to a subgoal of a state, mostly.
func (s *subgoals) rule(state kernel.Theorem, at, kind int) kernel.Theorem {
	l, _ := term.Strip(state.Prop())
	g := resolve.Split(l[at])
	opened := func(t api.Term) api.Term {
		for i, p := range slices.Backward(g.Params) {
			t = term.Put(t, free("par"+string(rune('a'+i)), p.Type))
		}
		return must(term.Norm(t, 1000))
	}
	concl := s.general(opened(g.Concl))
	if kind == resolve.Drule || s.pick(8) == 0 {
		concl = s.prop(1)
	}
	var from []api.Term
	if kind != resolve.Rule && len(g.Hyps) > 0 && s.pick(8) > 0 {
		from = append(from, s.general(opened(g.Hyps[s.pick(len(g.Hyps))])))
	}
	for range s.pick(3) {
		p := s.subgoal(s.pick(3), 1)
		if vars := term.Vars(concl); len(vars) > 0 && s.pick(2) == 0 {
			v := vars[s.pick(len(vars))]
			p = term.Imp(app(free("q"+shortName(v.Type), fun(v.Type, prop())), v), p)
		}
		from = append(from, p)
	}
	if slices.ContainsFunc(append(from, concl), func(t api.Term) bool { return slices.ContainsFunc(term.Frees(t), isParameter) }) {
		from, concl = nil, s.prop(1)
	}
	for _, a := range slices.Backward(from) {
		concl = term.Imp(a, concl)
	}
	return s.theorem(concl)
}

// sameStated reports whether a theorem states something.
func sameStated(th kernel.Theorem, want claim) bool {
	return term.Equal(th.Prop(), want.prop) && sameNames(th.Prop(), want.prop) && slices.EqualFunc(th.Hyps(), want.hyps, term.Equal) && slices.Equal(th.Oracles(), want.oracles)
}

// sameNames reports whether the abstractions of equal terms have the same names.
func sameNames(a, b api.Term) bool {
	return a.Name == b.Name && slices.EqualFunc(a.Kids, b.Kids, sameNames)
}

// taken reports whether the checker takes the proof of a theorem, and finds what it states.
func taken(t *testing.T, th kernel.Theorem) {
	t.Helper()
	s, e := checker.Check(th.Theory(), th.Proof())
	if e != api.OK || !checker.Same(s, checker.Sequent{Hyps: th.Hyps(), Prop: th.Prop(), Oracles: th.Oracles()}) {
		t.Fatal("not taken", e)
	}
}

// said writes what theorems state.
func said(l ...claim) string {
	s := ""
	for _, x := range l {
		for _, h := range x.hyps {
			s += "[" + textOf(h) + "] "
		}
		s += textOf(x.prop) + "\n"
	}
	return s
}

// textOf returns the text of a term, if it has one.
func textOf(t api.Term) string {
	s, _ := term.Text(t)
	return s
}

func TestResolventsByTheWord(t *testing.T) {
	var found, several, withParams, withHyps [4]int
	for seed := range int64(1500) {
		s := newSubgoals(seed)
		state := s.state()
		l, _ := term.Strip(state.Prop())
		at, kind, depth := s.pick(len(l)), int(seed%4), s.pick(7)
		var rule kernel.Theorem
		if kind != 0 {
			rule = s.rule(state, at, kind)
		}
		got, e := solve(rule, at, state, kind, depth)
		if e == api.ErrFail {
			continue
		}
		if e != api.OK {
			t.Fatal(seed, e)
		}
		x := newLifting(rule, at, state)
		want := x.resolvents(kind, depth)
		if len(got) != len(want) {
			t.Fatal(seed, kind, depth, len(got), len(want), "\n"+said(x.state, x.rule), "\n"+said(want...))
		}
		for i := range got {
			if !sameStated(got[i], want[i]) {
				t.Fatal(seed, kind, depth, i, "\n"+said(x.state, x.rule), "\n"+said(want[i], statedBy(got[i])))
			}
			if i < 3 {
				taken(t, got[i])
			}
		}
		if len(got) > 0 {
			found[kind]++
			if len(x.goal.Params) > 0 {
				withParams[kind]++
			}
			if len(x.state.hyps)+len(x.rule.hyps) > 0 {
				withHyps[kind]++
			}
		}
		if len(got) > 1 {
			several[kind]++
		}
	}
	for kind, least := range []int{50, 200, 100, 100} {
		if found[kind] < least || several[kind] < 1 || withParams[kind] < least/3 || withHyps[kind] < least/3 {
			t.Error(kind, found, several, withParams, withHyps)
		}
	}
}

// What is raised, and lifted, states what chapter 12 says by terms.
func TestLiftedByTheWord(t *testing.T) {
	lifted := 0
	for seed := range int64(600) {
		s := newSubgoals(seed)
		state := s.state()
		l, _ := term.Strip(state.Prop())
		at := s.pick(len(l))
		rule := s.rule(state, at, 1+s.pick(3))
		x := newLifting(rule, at, state)
		r, e := resolve.Raised(rule, state)
		want := x.rule
		slices.SortFunc(want.hyps, term.Compare)
		if e != api.OK || !sameStated(r, want) {
			t.Fatal(seed, e, "\n"+said(want)+said(statedBy(r)))
		}
		taken(t, r)
		th, e := resolve.Lift(rule, at, state)
		if e == api.ErrFail {
			continue
		}
		want.prop = x.lifted()
		if e == api.ErrType && !agree(append(slices.Clone(want.hyps), want.prop)) {
			continue // a fixed variable has a type that was raised
		}
		if e != api.OK || !sameStated(th, want) {
			t.Fatal(seed, e, "\n"+said(want)+said(statedBy(th)))
		}
		taken(t, th)
		lifted++
	}
	if lifted < 400 {
		t.Error(lifted)
	}
}

// A subgoal without parameters and assumptions is solved by a theorem that states just this.
func TestExact(t *testing.T) {
	for seed := range int64(300) {
		s := newSubgoals(seed)
		a := s.prop(3)
		if _, _, ok := term.IsImp(a); ok || term.MaxIndex(a) >= 0 {
			continue
		}
		state := s.theorem(term.Imp(s.prop(1), term.Imp(a, term.Protect(s.prop(1)))))
		l, _, e := resolve.First(s.theorem(a), 1, state, resolve.Rule, 8, 1)
		if e == api.ErrSort || e == api.ErrType {
			continue
		}
		if e != api.OK || len(l) != 1 {
			t.Fatal(seed, e, len(l))
		}
		if rest, _ := term.Strip(l[0].Prop()); len(rest) != 1 {
			t.Fatal(seed, len(rest))
		}
		taken(t, l[0])
	}
}

// solve returns the first resolvents of a kind; 0 is by assumption.
func solve(rule kernel.Theorem, at int, state kernel.Theorem, kind, depth int) ([]kernel.Theorem, api.Errno) {
	if kind == 0 {
		l, _, e := resolve.Solved(at, state, depth, 1000)
		return l, e
	}
	l, _, e := resolve.First(rule, at, state, kind, depth, 1000)
	return l, e
}
