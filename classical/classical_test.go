package classical_test

import (
	"iter"
	"math/rand"
	"slices"
	"testing"

	"triforium/api"
	"triforium/checker"
	"triforium/classical"
	"triforium/hol"
	"triforium/kernel"
	"triforium/resolve"
	"triforium/tactic"
	"triforium/term"
	"triforium/theory"
	"triforium/types"
)

func must[T any](x T, e api.Errno) T {
	if e != api.OK {
		panic(e)
	}
	return x
}

func free(name string) api.Term { return api.Term{Op: api.Free, Name: name, Type: hol.BoolType()} }

// checked looks whether the checker takes the proof of a theorem, and finds what it states.
func checked(t *testing.T, th kernel.Theorem) {
	t.Helper()
	s, e := checker.Check(th.Theory(), th.Proof())
	if e != api.OK || !checker.Same(s, checker.Sequent{Hyps: th.Hyps(), Prop: th.Prop(), Oracles: th.Oracles()}) {
		t.Fatal("the checker", e)
	}
}

// formulas yields the terms of some atoms with so many connectives.
func formulas(atoms []api.Term, n int) iter.Seq[api.Term] {
	return func(yield func(api.Term) bool) {
		if n == 0 {
			for _, a := range atoms {
				if !yield(a) {
					return
				}
			}
			return
		}
		for a := range formulas(atoms, n-1) {
			if !yield(hol.Not(a)) {
				return
			}
		}
		for k := range n {
			for a := range formulas(atoms, k) {
				for b := range formulas(atoms, n-1-k) {
					if !yield(hol.And(a, b)) || !yield(hol.Or(a, b)) || !yield(hol.Implies(a, b)) {
						return
					}
				}
			}
		}
	}
}

// P22.3: what is true for all values is proved, and nothing else.
func TestComplete(t *testing.T) {
	atoms := []api.Term{hol.True(), hol.False(), free("a"), free("b"), free("c")}
	proved, left, i := 0, 0, 0
	for n := range 4 {
		for x := range formulas(atoms, n) {
			i++
			is, _, e := classical.Tautology(x)
			if n == 3 && i%1597 != 0 || n == 2 && i%41 != 0 || e != api.OK {
				continue
			}
			th, e := classical.Prove(hol.HOL(), nil, hol.Truth(x), 1)
			if is != (e == api.OK) || !is && e != api.ErrFail {
				t.Fatal(must(term.Text(x)), is, e)
			}
			if left++; !is {
				continue
			}
			proved++
			checked(t, th)
			if !term.Equal(th.Prop(), hol.Truth(x)) || len(th.Hyps())+len(th.Oracles()) > 0 {
				t.Error(must(term.Text(th.Prop())))
			}
		}
	}
	t.Log(i, left, proved)
}

// rule returns premises and a conclusion; terms of the type bool get Trueprop.
func rule(l ...api.Term) api.Term {
	for i, t := range l {
		if types.Equal(must(term.TypeOf(t)), hol.BoolType()) {
			l[i] = hol.Truth(t)
		}
	}
	r := l[len(l)-1]
	for _, a := range slices.Backward(l[:len(l)-1]) {
		r = term.Imp(a, r)
	}
	return r
}

// state returns a state with some subgoals, from its own hypothesis.
func state(l ...api.Term) kernel.Theorem {
	return must(kernel.Assume(hol.HOL(), rule(append(l, term.Protect(hol.Truth(free("goal"))))...)))
}

// subgoals returns the subgoals of a state.
func subgoals(th kernel.Theorem) []api.Term { return must(tactic.Subgoals(th)) }

func TestStandard(t *testing.T) {
	l := must(classical.Standard(hol.Nat()))
	names := []string{"trueI", "conjI", "impI", "notI", "allI", "falseE", "conjE", "disjE", "exE", "not_not", "not_conj", "not_disj", "not_imp", "imp_disj", "not_all", "not_ex", "not_True", "notE", "disjI1", "disjI2", "exI", "allE"}
	if len(l) != len(names) || classical.Check(l) != api.OK {
		t.Fatal(len(l))
	}
	for i, x := range l {
		prop := must(hol.Rule(names[i])).Prop()
		kind := classical.Intro
		switch {
		case i >= 9 && i < 17:
			kind = classical.Dest
			p, _ := hol.Untruth(prop)
			_, sides := term.Spine(p)
			prop = rule(sides...)
		case i >= 5 && i < 9 || i == 17 || i == 21:
			kind = classical.Elim
		}
		if !term.Equal(x.Theorem.Prop(), prop) || x.Kind != kind || x.Safe != (i < 17) || x.Theorem.Theory().Name != "Nat" || len(x.Theorem.Hyps())+len(x.Theorem.Oracles()) > 0 {
			t.Error(names[i], must(term.Text(x.Theorem.Prop())), x.Kind, x.Safe)
		}
		checked(t, x.Theorem)
	}
	if _, e := classical.Standard(theory.Pure()); e != api.ErrTheory {
		t.Error(e)
	}
	if _, e := classical.Standard(api.Theory{}); e != api.ErrForm {
		t.Error(e)
	}
}

func TestErrors(t *testing.T) {
	thm := must(hol.Rule("conjE"))
	many := make([]classical.Rule, classical.MaxRules+1)
	refl := must(hol.Rule("refl"))
	s := state(free("a"))
	nat := classical.Rule{Theorem: must(hol.Rule("plus_Zero")), Kind: 1}
	for i, v := range []struct {
		l            []classical.Rule
		s            kernel.Theorem
		at, d, steps int
		check, e     api.Errno
	}{
		{many, s, -1, -1, -1, api.ErrCount, api.ErrCount}, {many, kernel.Theorem{}, -1, -1, -1, api.ErrCount, kernel.ErrNone}, {many[:1], s, -1, -1, -1, kernel.ErrNone, kernel.ErrNone}, {[]classical.Rule{{Theorem: thm}}, s, -1, -1, -1, api.ErrArgument, api.ErrArgument},
		{[]classical.Rule{{Theorem: thm, Kind: 4}}, s, 0, 0, 0, api.ErrArgument, api.ErrArgument}, {[]classical.Rule{{Theorem: refl, Kind: 1}, {Theorem: refl, Kind: 2}, {}}, s, 0, 0, 0, classical.ErrRule, classical.ErrRule}, {[]classical.Rule{{Theorem: refl, Kind: 3}}, s, 0, 0, 0, classical.ErrRule, classical.ErrRule},
		{[]classical.Rule{nat, {}}, s, 0, 0, 0, kernel.ErrNone, api.ErrTheory}, {nil, s, -1, -1, -1, 0, resolve.ErrSubgoal}, {nil, s, 1, 0, 0, 0, resolve.ErrSubgoal}, {nil, s, 0, -1, 0, 0, api.ErrRange}, {nil, s, 0, 13, 0, 0, api.ErrRange}, {nil, s, 0, 0, -1, 0, api.ErrRange},
		{nil, s, 0, 0, classical.MaxSteps + 1, 0, api.ErrRange}, {nil, s, 0, 0, 0, 0, api.ErrFuel}, {nil, s, 0, 0, 1, 0, api.ErrFail}, {nil, s, 0, 12, 5000, 0, api.ErrFail},
	} {
		if e := classical.Check(v.l); e != v.check {
			t.Error(i, e, v.check)
		}
		th, n, e := classical.Search(v.l, v.s, v.at, v.d, v.steps)
		if e != v.e || th.Is() || n != 0 {
			t.Error(i, e, v.e)
		}
		want := v.e
		if want == api.ErrFail || v.d != 0 && want == api.ErrRange && v.steps == 0 {
			want = api.OK
		}
		if v.d != 0 && v.steps == 0 {
			continue
		}
		th, n, e = classical.Safe(v.l, v.s, v.at, v.steps)
		if e != want || th.Is() != (e == 0) || n != 0 {
			t.Error(i, e, want)
		}
	}
	for i, v := range []struct {
		thy  api.Theory
		l    []classical.Rule
		prop api.Term
		d    int
		e    api.Errno
	}{
		{theory.Pure(), many, api.Term{}, -1, api.ErrTheory}, {hol.HOL(), many, api.Term{}, -1, api.ErrCount}, {hol.HOL(), []classical.Rule{nat}, api.Term{}, -1, api.ErrTheory}, {hol.HOL(), slices.Repeat([]classical.Rule{{Theorem: thm, Kind: 2}}, 79), api.Term{}, -1, api.ErrCount},
		{hol.HOL(), slices.Repeat([]classical.Rule{{Theorem: thm, Kind: 2}}, 78), api.Term{}, -1, api.ErrForm}, {hol.HOL(), nil, free("a"), -1, api.ErrType}, {hol.HOL(), nil, hol.Truth(free("a")), -1, api.ErrRange}, {hol.HOL(), nil, hol.Truth(free("a")), 13, api.ErrRange}, {hol.HOL(), nil, hol.Truth(free("a")), 1, api.ErrFail},
	} {
		if th, e := classical.Prove(v.thy, v.l, v.prop, v.d); e != v.e || th.Is() {
			t.Error(i, e, v.e)
		}
	}
}

// Safe steps, and what is left of the subgoals.
func TestSafe(t *testing.T) {
	std := must(classical.Standard(hol.HOL()))
	a, b, c := free("a"), free("b"), free("c")
	x := free("x")
	for i, v := range []struct {
		goal  api.Term
		want  []api.Term
		steps int
	}{
		{rule(hol.True()), nil, 1}, {rule(a), []api.Term{rule(a)}, 0}, {rule(a, a), nil, 1}, {rule(hol.And(a, b)), []api.Term{rule(a), rule(b)}, 1},
		{rule(hol.Implies(a, hol.And(a, b))), []api.Term{rule(a, b)}, 3}, {rule(hol.Not(hol.Or(a, b)), c), []api.Term{rule(hol.Not(a), hol.Not(b), c)}, 2},
		{rule(hol.Or(a, b), c), []api.Term{rule(a, c), rule(b, c)}, 1}, {rule(hol.False(), a), nil, 1}, {rule(must(hol.All(x, hol.Or(x, a)))), []api.Term{term.All(x, rule(hol.Or(x, a)))}, 1},
		{rule(must(hol.Ex(x, hol.And(x, a))), b), []api.Term{term.All(x, rule(x, a, b))}, 2}, {rule(hol.Not(hol.Not(a)), b), []api.Term{rule(a, b)}, 1}, {rule(hol.Not(hol.True()), a), nil, 2},
	} {
		th, n, e := classical.Safe(std, state(c, v.goal, b), 1, 500)
		if e != api.OK || n != v.steps {
			t.Error(i, n, e)
			continue
		}
		checked(t, th)
		if want := slices.Concat([]api.Term{rule(c)}, v.want, []api.Term{rule(b)}); !slices.EqualFunc(subgoals(th), want, term.Equal) {
			for _, y := range subgoals(th) {
				t.Error(i, must(term.Text(y)))
			}
		}
	}
}

// The number of tries, and alternatives: a rule whose first state leads nowhere.
func TestSearch(t *testing.T) {
	a, b := free("a"), free("b")
	by := func(kind int, safe bool, l ...api.Term) classical.Rule {
		return classical.Rule{Theorem: must(kernel.Assume(hol.HOL(), rule(l...))), Kind: kind, Safe: safe}
	}
	dead, live := by(classical.Intro, false, b, a), by(classical.Intro, false, a)
	for i, v := range []struct {
		l     []classical.Rule
		goal  api.Term
		depth int
		tries int
		e     api.Errno
	}{
		{nil, rule(a, a), 0, 1, 0}, {nil, rule(a), 5, 0, api.ErrFail}, {[]classical.Rule{live}, rule(a), 1, 2, 0}, {[]classical.Rule{live}, rule(a), 0, 0, api.ErrFail},
		// Solved; dead, for whose subgoal Solved, and at the depth 1 both rules; then live
		{[]classical.Rule{dead, live}, rule(a), 1, 4, 0}, {[]classical.Rule{dead, live}, rule(a), 2, 6, 0},
		{[]classical.Rule{by(classical.Intro, true, a)}, rule(a), 0, 2, 0}, {[]classical.Rule{by(classical.Elim, false, hol.Not(b), a)}, rule(hol.Not(b), a), 1, 2, 0},
		{[]classical.Rule{by(classical.Dest, true, hol.Not(b), a)}, rule(hol.Not(b), a), 0, 3, 0},
	} {
		th, n, e := classical.Search(v.l, state(v.goal), 0, v.depth, 100)
		if e != v.e || n != v.tries {
			t.Error(i, n, e)
			continue
		}
		if e == api.OK {
			checked(t, th)
			if len(subgoals(th)) != 0 {
				t.Error(i, "subgoals are left")
			}
			if _, _, e := classical.Search(v.l, state(v.goal), 0, v.depth, n-1); e != api.ErrFuel {
				t.Error(i, e)
			}
		}
	}
}

// randomTerm returns a term of connectives, quantifiers and predicates.
func randomTerm(r *rand.Rand, depth int) api.Term {
	if depth == 0 || r.Intn(6) == 0 {
		return free([]string{"a", "b", "c"}[r.Intn(3)])
	}
	x, y := randomTerm(r, depth-1), randomTerm(r, depth-1)
	switch r.Intn(7) {
	case 0, 1:
		return hol.Not(x)
	case 2:
		return hol.And(x, y)
	case 3:
		return hol.Or(x, y)
	case 4:
		return must(hol.All(free("a"), x))
	case 5:
		return must(hol.Ex(free("b"), x))
	}
	return hol.Implies(x, y)
}

// P22.4, P22.5: more steps make the same; behind Safe there is no safe step.
func TestMoreSteps(t *testing.T) {
	std := must(classical.Standard(hol.HOL()))
	r := rand.New(rand.NewSource(1))
	solved := 0
	for range 40 {
		s := state(rule(randomTerm(r, 2), randomTerm(r, 3)))
		th, n, e := classical.Safe(std, s, 0, 300)
		if e != api.OK {
			continue
		}
		checked(t, th)
		more, m, e := classical.Safe(std, s, 0, 5000)
		if e != api.OK || n != m || !term.Equal(more.Prop(), th.Prop()) {
			t.Fatal(n, m, e)
		}
		for i := range subgoals(th) {
			if _, k, e := classical.Safe(std, th, i, 300); k != 0 || e != api.OK {
				t.Fatal("a safe step is left", k, e)
			}
		}
		th, n, e = classical.Search(std, s, 0, 1, 200)
		if e != api.OK {
			continue
		}
		solved++
		more, m, e = classical.Search(std, s, 0, 1, 400)
		if e != api.OK || n != m || !term.Equal(more.Prop(), th.Prop()) {
			t.Fatal(n, m, e)
		}
	}
	if solved < 5 {
		t.Error(solved)
	}
}

// P22.2: propositions with variables, quantifiers, further rules, and what is no truth.
func TestProve(t *testing.T) {
	a, b, x := free("a"), free("b"), free("x")
	v := api.Term{Op: api.Var, Name: "v", Type: hol.BoolType()}
	all, ex := must(hol.All(x, hol.Or(x, hol.Not(x)))), must(hol.Ex(x, x))
	further := classical.Rule{Theorem: must(kernel.Assume(hol.HOL(), rule(a, b))), Kind: classical.Intro}
	for i, y := range []struct {
		l    []classical.Rule
		prop api.Term
		want api.Term
	}{
		{nil, rule(all), rule(all)}, {nil, rule(ex), rule(ex)}, {nil, rule(hol.Implies(hol.And(a, b), hol.And(b, a))), rule(hol.Implies(hol.And(a, b), hol.And(b, a)))},
		{nil, rule(a, a), rule(a, a)}, {[]classical.Rule{further}, rule(hol.Implies(a, b)), rule(hol.Implies(a, b))}, {nil, rule(v), rule(hol.True())},
	} {
		th, e := classical.Prove(hol.HOL(), y.l, y.prop, 2)
		if e != api.OK {
			t.Error(i, e)
			continue
		}
		checked(t, th)
		if i != 5 && !term.Equal(th.Prop(), y.want) || len(th.Hyps()) > len(y.l) || len(th.Oracles()) > 0 {
			t.Error(i, must(term.Text(th.Prop())))
		}
	}
}

func TestTautology(t *testing.T) {
	a, b, c := free("a"), free("b"), free("c")
	eq := func(a, b api.Term) api.Term { return must(hol.Equal(a, b)) }
	n := api.Term{Op: api.Free, Name: "n", Type: hol.NatType()}
	big := free("x0")
	for _, name := range []string{"x1", "x2", "x3", "x4", "x5", "x6", "x7", "x8", "x9", "y0", "y1"} {
		big = hol.Or(big, free(name))
	}
	other := api.Term{Op: api.Const, Name: "Not", Type: types.Fun(hol.NatType(), hol.BoolType())}
	odd := term.Apps(other, []api.Term{n})
	for i, v := range []struct {
		t     api.Term
		is    bool
		wrong []api.Term
		e     api.Errno
	}{
		{hol.True(), true, nil, 0}, {hol.False(), false, nil, 0}, {a, false, []api.Term{a}, 0}, {hol.Not(a), false, nil, 0}, {hol.Or(a, hol.Not(a)), true, nil, 0}, {hol.And(a, b), false, []api.Term{a, b}, 0}, {hol.Or(hol.Not(a), b), false, []api.Term{b}, 0},
		{hol.Implies(hol.And(a, hol.Not(b)), hol.Or(c, b)), false, []api.Term{b, c}, 0}, {eq(a, hol.Not(hol.Not(a))), true, nil, 0}, {eq(eq(n, n), a), false, []api.Term{eq(n, n)}, 0}, {hol.Implies(odd, odd), true, nil, 0}, {hol.Implies(eq(n, n), eq(n, n)), true, nil, 0},
		{big, false, hol.Atoms(big, 12), 0}, {hol.Or(big, free("y2")), false, nil, api.ErrCount}, {n, false, nil, api.ErrType}, {api.Term{}, false, nil, api.ErrForm}, {hol.Truth(a), false, nil, api.ErrType},
	} {
		is, wrong, e := classical.Tautology(v.t)
		if is != v.is || e != v.e || !slices.EqualFunc(wrong, v.wrong, term.Equal) {
			t.Error(i, is, len(wrong), e)
		}
	}
}
