package laws

import (
	"slices"
	"testing"

	"triforium/api"
	"triforium/kernel"
	"triforium/resolve"
	"triforium/tactic"
	"triforium/term"
)

// fuel is that of the runs.
const fuel = 80

// tactics makes random expressions for a state and rules.
type tactics struct {
	*subgoals
	rules []kernel.Theorem
	state kernel.Theorem
}

func newTactics(seed int64) *tactics {
	s := newSubgoals(seed)
	t := tactics{subgoals: s}
	goal := term.Protect(s.prop(1))
	for range s.pick(4) {
		goal = term.Imp(s.subgoal(s.pick(4), 1), goal)
	}
	t.state = s.theorem(goal)
	goals := must(tactic.Subgoals(t.state))
	for range 4 {
		if len(goals) > 0 {
			t.rules = append(t.rules, s.rule(t.state, s.pick(len(goals)), 1+s.pick(3)))
		}
	}
	// one that makes subgoals of the same form, an equation, and two that are always there
	a := free("A", prop())
	t.rules = append(t.rules, must(kernel.Oracle(s.thy, "guess", term.Imp(a, term.Imp(a, term.Imp(free("B", prop()), free("B", prop())))))))
	x, u := s.prop(1), s.prop(1)
	if l := term.Frees(x); len(l) > 0 {
		x = l[0]
		u = s.term(x.Type, nil, 1)
	}
	t.rules = append(t.rules, must(kernel.Oracle(s.thy, "guess", must(term.Eq(x, u)))))
	return &t
}

// expr returns a random expression.
func (t *tactics) expr(depth int) tactic.Expr {
	if depth <= 0 || t.pick(3) == 0 {
		return t.basic()
	}
	e := tactic.Expr{Kind: tactic.Then + t.pick(8)}
	kids := 1
	if e.Kind <= tactic.Else {
		kids = 2
	}
	for range kids {
		e.Kids = append(e.Kids, t.expr(depth-1))
	}
	return e
}

func (t *tactics) basic() tactic.Expr {
	e := tactic.Expr{Kind: []int{1, 2, 3, 3, 3, 4, 5, 6, 6, 7, 8, 17, 17, 18}[t.pick(14)]}
	if e.Kind > tactic.Fail {
		e.At = t.pick(3) * t.pick(2)
	}
	switch e.Kind {
	case tactic.Rule, tactic.Erule, tactic.Drule, tactic.Unfold:
		e.Num = t.pick(len(t.rules))
		if e.Kind == tactic.Unfold {
			e.Num = len(t.rules) - 1
		}
	case tactic.Cut:
		e.Prop = t.prop(1)
	}
	return e
}

func (t *tactics) run(e tactic.Expr, most int) ([]kernel.Theorem, bool, api.Errno) {
	return tactic.Run(t.thy, t.rules, e, t.state, fuel, most)
}

// focused is a state with a focus.
type focused struct {
	th          kernel.Theorem
	from, count int
}

// restated returns a theorem that states a proposition, with hypotheses.
func (s *subgoals) restated(prop api.Term, hyps []api.Term) kernel.Theorem {
	for _, h := range hyps {
		prop = term.Imp(h, prop)
	}
	th := must(kernel.Oracle(s.thy, "trust", prop))
	for _, h := range slices.Backward(hyps) {
		th = must(kernel.ImpElim(th, must(kernel.Assume(s.thy, h))))
	}
	return th
}

// plain evaluates expressions as chapter 13 says, all states at once; it gives up where there are too many.
type plain struct {
	*tactics
	left int
}

type tooMany struct{}

func (p *plain) goals(f focused) []api.Term {
	l, _ := term.Strip(f.th.Prop())
	return l
}

func (p *plain) eval(e tactic.Expr, f focused) []focused {
	p.left--
	if p.left < 0 {
		panic(tooMany{})
	}
	var l []focused
	kid := func(i int, g focused) []focused { return p.eval(e.Kids[i], g) }
	switch e.Kind {
	case tactic.Pass:
		return []focused{f}
	case tactic.Fail:
		return nil
	case tactic.Then:
		for _, g := range kid(0, f) {
			l = append(l, kid(1, g)...)
		}
	case tactic.Or:
		l = append(kid(0, f), kid(1, f)...)
	case tactic.Else, tactic.Try:
		l = kid(0, f)
		if len(l) == 0 && e.Kind == tactic.Else {
			l = kid(1, f)
		} else if len(l) == 0 {
			l = []focused{f}
		}
	case tactic.Repeat:
		for _, g := range kid(0, f) {
			l = append(l, p.eval(e, g)...)
		}
		if len(l) == 0 {
			l = []focused{f}
		}
	case tactic.Each:
		l = []focused{f}
		for i := f.count - 1; i >= 0; i-- {
			var next []focused
			for _, g := range l {
				for _, h := range kid(0, focused{g.th, f.from + i, 1}) {
					next = append(next, focused{h.th, g.from, g.count + h.count - 1})
				}
			}
			l = next
		}
	case tactic.First:
		l = kid(0, f)
		l = l[:min(len(l), 1)]
	case tactic.Solve:
		l = slices.DeleteFunc(kid(0, f), func(g focused) bool { return g.count >= f.count })
	default:
		return p.basics(e, f)
	}
	return l
}

// basics evaluates a basic tactic.
func (p *plain) basics(e tactic.Expr, f focused) []focused {
	if e.At >= f.count {
		return nil
	}
	old, at := p.goals(f), f.from+e.At
	prop, hyps := f.th.Prop(), f.th.Hyps()
	_, concl := term.Strip(prop)
	var all []kernel.Theorem
	with := func(l ...[]api.Term) {
		t := concl
		for _, a := range slices.Backward(slices.Concat(l...)) {
			t = term.Imp(a, t)
		}
		all = append(all, p.restated(t, hyps))
	}
	a := old[at]
	switch e.Kind {
	case tactic.Rule, tactic.Erule, tactic.Drule:
		all, _, _ = resolve.First(p.rules[e.Num], at, f.th, e.Kind-tactic.Rule+resolve.Rule, 8, 1000)
	case tactic.Assume:
		all, _, _ = resolve.Solved(at, f.th, 8, 1000)
	case tactic.Rotate:
		end := f.from + f.count
		with(old[:at], old[at+1:end], old[at:at+1], old[end:])
	case tactic.Protect:
		b, ok := term.IsProtect(a)
		if !ok {
			b = term.Protect(a)
		}
		with(old[:at], []api.Term{b}, old[at+1:])
	case tactic.Unfold:
		c, r, ok := term.IsEq(p.rules[e.Num].Prop())
		rule := append(p.rules[e.Num].Hyps(), p.rules[e.Num].Prop())
		if b := term.Bind(c, a); ok && c.Op == api.Free && !term.Closed(b) && agree(slices.Concat(hyps, []api.Term{prop}, rule)) {
			hyps = append(hyps, p.rules[e.Num].Hyps()...)
			with(old[:at], []api.Term{term.Put(b, r)}, old[at+1:])
		}
	case tactic.Cut:
		if agree(append(slices.Clone(hyps), prop, e.Prop)) {
			with(old[:at], []api.Term{e.Prop, term.Imp(e.Prop, a)}, old[at+1:])
		}
	}
	var l []focused
	for _, th := range all {
		goals, _ := term.Strip(th.Prop())
		if nodes, depth := term.Size(th.Prop()); len(goals) <= tactic.MaxGoals && nodes <= 2000 && depth <= 100 {
			l = append(l, focused{th, f.from, f.count + len(goals) - len(old)})
		}
	}
	return l
}

// evaluated returns the states of an expression; false, if there are too many.
func (t *tactics) evaluated(e tactic.Expr) (l []focused, ok bool) {
	defer func() {
		if x := recover(); x != nil {
			if _, is := x.(tooMany); !is {
				panic(x)
			}
			l, ok = nil, false
		}
	}()
	p := plain{t, 300}
	f := focused{th: t.state}
	f.count = len(p.goals(f))
	return p.eval(e, f), true
}

func TestTacticsByTheWord(t *testing.T) {
	compared, some, several := 0, 0, 0
	for seed := range int64(600) {
		x := newTactics(seed)
		e := x.expr(3)
		want, ok := x.evaluated(e)
		got, more, code := x.run(e, 100)
		if !ok || code == api.ErrFuel {
			continue
		}
		if code != api.OK || more != (len(want) > 100) || len(got) != min(len(want), 100) {
			t.Fatal(seed, code, len(got), len(want), e)
		}
		compared++
		for i := range got {
			if th := want[i].th; !term.Equal(got[i].Prop(), th.Prop()) || !slices.EqualFunc(got[i].Hyps(), th.Hyps(), term.Equal) {
				t.Fatal(seed, i, "\n"+said(statedBy(got[i]), statedBy(th)))
			}
			if i < 2 {
				taken(t, got[i])
			}
		}
		if len(got) > 0 {
			some++
		}
		if len(got) > 1 {
			several++
		}
		x.lazily(t, seed, e, got)
	}
	if compared < 400 || some < 150 || several < 10 {
		t.Error(compared, some, several)
	}
}

// lazily looks whether the first states are the same, however many are asked for, and those of a tactic.
func (t *tactics) lazily(test *testing.T, seed int64, e tactic.Expr, whole []kernel.Theorem) {
	for _, n := range []int{0, 1, len(whole) / 2} {
		l, more, code := t.run(e, n)
		if code != api.OK || len(l) != min(n, len(whole)) || more != (n < len(whole)) && len(whole) < 100 {
			test.Fatal(seed, n, code, len(l), more)
		}
		for i := range l {
			if !sameStated(l[i], statedBy(whole[i])) {
				test.Fatal(seed, n, i)
			}
		}
	}
	k := 0
	for th := range must(tactic.Make(t.thy, t.rules, e, fuel))(t.state) {
		if k == len(whole)/2+1 || k == len(whole) {
			break
		}
		if !sameStated(th, statedBy(whole[k])) {
			test.Fatal(seed, k)
		}
		k++
	}
}

// said of the states that an expression makes, with their hypotheses and oracles.
func (t *tactics) said(e tactic.Expr) (string, bool) {
	l, more, code := t.run(e, 40)
	s := ""
	for _, th := range l {
		s += said(statedBy(th))
		for _, o := range th.Oracles() {
			s += o + " "
		}
	}
	if more {
		s += "more"
	}
	return s, code == api.OK
}

func TestAlgebraOfTactics(t *testing.T) {
	kind := func(k int, l ...tactic.Expr) tactic.Expr { return tactic.Expr{Kind: k, Kids: l} }
	pass, fail := kind(tactic.Pass), kind(tactic.Fail)
	compared := 0
	for seed := range int64(150) {
		x := newTactics(seed)
		a, b, c := x.expr(2), x.expr(1), x.expr(1)
		for i, l := range [][2]tactic.Expr{
			{kind(tactic.Then, kind(tactic.Then, a, b), c), kind(tactic.Then, a, kind(tactic.Then, b, c))}, {kind(tactic.Or, kind(tactic.Or, a, b), c), kind(tactic.Or, a, kind(tactic.Or, b, c))},
			{kind(tactic.Then, pass, a), a}, {kind(tactic.Then, a, pass), a}, {kind(tactic.Or, fail, a), a}, {kind(tactic.Or, a, fail), a}, {kind(tactic.Else, fail, a), a}, {kind(tactic.Else, a, fail), a},
			{kind(tactic.First, kind(tactic.First, a)), kind(tactic.First, a)}, {kind(tactic.Try, a), kind(tactic.Else, a, pass)},
		} {
			s, ok := x.said(l[0])
			u, same := x.said(l[1])
			if ok != same || s != u {
				t.Fatal(seed, i, ok, same, "\n"+s+"\n\n"+u)
			}
			if ok && s != "" {
				compared++
			}
		}
		goals := must(tactic.Subgoals(x.state))
		for at := range goals {
			twice := kind(tactic.Then, tactic.Expr{Kind: tactic.Protect, At: at}, tactic.Expr{Kind: tactic.Protect, At: at})
			turned := pass
			for range goals {
				turned = kind(tactic.Then, tactic.Expr{Kind: tactic.Rotate}, turned)
			}
			want, _ := x.said(pass)
			for _, e := range []tactic.Expr{twice, turned} {
				if s, ok := x.said(e); !ok || s != want {
					t.Fatal(seed, at, s, want)
				}
			}
		}
	}
	if compared < 400 {
		t.Error(compared)
	}
}

// What Prove returns states the proposition, with no other hypotheses and oracles than those of the rules.
func TestProved(t *testing.T) {
	proved := 0
	for seed := range int64(400) {
		x := newTactics(seed)
		goals := must(tactic.Subgoals(x.state))
		if len(goals) == 0 {
			continue
		}
		e := tactic.Expr{Kind: tactic.Then, Kids: []tactic.Expr{x.expr(2), {Kind: tactic.Repeat, Kids: []tactic.Expr{{Kind: tactic.Assume}}}}}
		if x.pick(2) == 0 { // a rule that states it
			x.rules = append(x.rules, x.theorem(goals[0]))
			e.Kids[0] = tactic.Expr{Kind: tactic.Rule, Num: len(x.rules) - 1}
		}
		th, code := tactic.Prove(x.thy, x.rules, goals[0], e, 200)
		if code != api.OK {
			continue
		}
		proved++
		taken(t, th)
		if term.MaxIndex(goals[0]) < 0 && !term.Equal(th.Prop(), goals[0]) && term.Equal(normal(goals[0]), goals[0]) {
			t.Fatal(seed, "another proposition\n"+said(statedBy(th)))
		}
		for _, o := range th.Oracles() {
			if !slices.ContainsFunc(x.rules, func(r kernel.Theorem) bool { return slices.Contains(r.Oracles(), o) }) {
				t.Fatal(seed, o)
			}
		}
		if len(th.Hyps()) > 0 && !slices.ContainsFunc(x.rules, func(r kernel.Theorem) bool { return len(r.Hyps()) > 0 }) {
			t.Fatal(seed, "hypotheses")
		}
	}
	if proved < 60 {
		t.Error(proved)
	}
}
