package resolve_test

import (
	"fmt"
	"slices"
	"strings"
	"testing"

	"triforium/api"
	"triforium/kernel"
	"triforium/resolve"
	"triforium/term"
	"triforium/theory"
	"triforium/types"
)

// all returns what the resolvents state, which the checker has to take.
func all(t *testing.T, l []kernel.Theorem, e api.Errno) string {
	t.Helper()
	if e != api.OK {
		t.Error(e)
	}
	var r []string
	for _, th := range l {
		taken(t, th)
		r = append(r, said(th))
	}
	return strings.Join(r, " | ")
}

func TestRule(t *testing.T) {
	thy := world()
	for i, x := range []struct {
		rule, state string
		at          int
		want        string
	}{
		// the example of the chapter
		{"p ?x ==> q ?x", "q c ==> q c", 0, "p c ==> q c"},
		// more premises, or none; other subgoals stay in their places
		{"q ?x", "q c ==> A", 0, "A"}, {"A ==> B ==> C", "D ==> C ==> E ==> F", 1, "D ==> A ==> B ==> E ==> F"}, {"A", "B ==> C", 0, ""}, {"C", "C ==> C ==> C", 1, "C ==> C"},
		// variables of the state are bound, too; those of the rule are raised
		{"p ?x ==> q ?x", "q ?x ==> r ?x", 0, "p ?H#2 ==> r ?H#2"}, {"p ?x ==> q c", "q ?x ==> r ?x", 0, "p ?x#1 ==> r c"}, {"l ?x ?y ==> q ?x", "q c ==> A", 0, "l c ?y ==> A"}, {"q c", "?A ==> ?A", 0, "q c"},
		// parameters and assumptions
		{"p ?x ==> q ?x", "(!!x. r x ==> q (s x)) ==> A", 0, "(!!x. r x ==> p (s x)) ==> A"}, {"p ?x ==> q ?y", "(!!x. q x) ==> A", 0, "(!!x. p (?x x)) ==> A"}, {"q c", "(B ==> q c) ==> A", 0, "A"},
		{"(!!y. p y ==> ?P y) ==> A", "(!!x. B ==> (!!z. q z ==> A)) ==> C", 0, "(!!x. !!z. !!y. B ==> q z ==> p y ==> ?P x z y) ==> C"}, {"(B ==> !!x. p x) ==> A", "A ==> C", 0, "(!!x. B ==> p x) ==> C"},
		{"(A ==> !!x. B ==> !!y. l x y ==> C) ==> D", "(!!z. E ==> D) ==> F", 0, "(!!z. !!x. !!y. E ==> A ==> B ==> l x y ==> C) ==> F"},
		// a variable cannot become what has a parameter of another place
		{"q ?x", "(!!x. q x) ==> A", 0, "A"}, {"?A ==> q c", "(!!x. !!y. q c) ==> A", 0, "(!!x. !!y. ?A x y) ==> A"}, {"l ?x ?x", "(!!x. !!y. l x y) ==> A", 0, ""},
		// higher-order: imitation first, then projections
		{"?P c ==> A", "A ==> B", 0, "?P c ==> B"}, {"p ?x ==> ?P ?x", "q c ==> A", 0, "p ?x ==> A | p c ==> A"}, {"A ==> ?P c", "q c ==> B", 0, "A ==> B | A ==> B"}, {"?P x ==> ?P c", "q c ==> A", 0, "q c ==> A | q x ==> A"},
		{"l ?x ?y ==> ?P ?x ==> ?P ?y", "q (s c) ==> A", 0, "l ?x ?y ==> q (s c) ==> A | l ?x c ==> q (s ?x) ==> A | l ?x (s c) ==> q ?x ==> A"},
		// eta
		{"p ?x ==> same{fun(fun(n,n),fun(fun(n,n),prop))} s (%x. s x)", "same{fun(fun(n,n),fun(fun(n,n),prop))} (%x. s x) s ==> A", 0, "p ?x ==> A"},
		// the whole proposition becomes beta-normal, also what is not touched
		{"q c", "q c ==> ((%x. p x) c) ==> ((%A{prop}. A) B)", 0, "p c ==> B"}, {"p ((%x. x) ?x) ==> q ?x", "((%x. q x) c) ==> A", 0, "p c ==> A"}, {"((%x. q x) c)", "q c ==> A", 0, "A"},
	} {
		rule, state := claimed(thy, x.rule), claimed(thy, x.state)
		l, more, e := resolve.First(rule, x.at, state, resolve.Rule, 8, 100)
		if got := all(t, l, e); got != x.want || more {
			t.Errorf("%d: %s\n want %s", i, got, x.want)
		}
	}
}

func TestElimination(t *testing.T) {
	thy := world()
	for i, x := range []struct {
		kind              int
		rule, state, want string
	}{
		{resolve.Erule, "p ?x ==> q ?x", "(p c ==> q c) ==> A", "A"}, {resolve.Erule, "p ?x ==> r ?x ==> q ?x", "(B ==> p c ==> C ==> q c) ==> A", "(B ==> C ==> r c) ==> A"}, {resolve.Erule, "p ?x ==> q ?x", "(r c ==> q c) ==> A", ""},
		// each assumption in order; of equal ones only the one that is used is left out
		{resolve.Erule, "p ?x ==> l ?x ?x ==> A", "(p c ==> p x ==> A) ==> B", "(p x ==> l c c) ==> B | (p c ==> l x x) ==> B"}, {resolve.Erule, "p ?x ==> B ==> A", "(p c ==> p c ==> A) ==> C", "(p c ==> B) ==> C | (p c ==> B) ==> C"},
		{resolve.Erule, "p ?x ==> (r ?x ==> ?A) ==> ?A", "(!!x. !!y. l x y ==> p (s x) ==> q y) ==> B", "(!!x. !!y. l x y ==> r (s x) ==> q y) ==> B"}, {resolve.Erule, "A", "(A ==> A) ==> B", ""}, {resolve.Erule, "A ==> A", "A ==> B", ""},
		{resolve.Erule, "(!!x. p x ==> q x) ==> A", "(B ==> (!!x. p x ==> q x) ==> A) ==> C", "C"}, {resolve.Erule, "same{fun(fun(n,n),fun(fun(n,n),prop))} s s ==> A", "(same{fun(fun(n,n),fun(fun(n,n),prop))} (%x. s x) s ==> A) ==> C", "C"},
		{resolve.Erule, "A ==> (!!x. p x ==> B) ==> C", "(D ==> A ==> E ==> C) ==> F", "(!!x. D ==> E ==> p x ==> B) ==> F"},
		// the conclusion ahead of the premise
		{resolve.Erule, "p ?x ==> ?P ?x", "(p c ==> q c) ==> A", "A | A"},
		{resolve.Drule, "p ?x ==> q ?x", "(p c ==> B) ==> A", "(q c ==> B) ==> A"}, {resolve.Drule, "p ?x ==> r ?x ==> q ?x", "(!!y. C ==> p (s y) ==> D ==> B) ==> A", "(!!y. C ==> D ==> r (s y)) ==> (!!y. C ==> D ==> q (s y) ==> B) ==> A"},
		{resolve.Drule, "p ?x ==> q ?x", "(p c ==> p x ==> B) ==> A", "(p x ==> q c ==> B) ==> A | (p c ==> q x ==> B) ==> A"}, {resolve.Drule, "p ?x ==> q ?x", "(r c ==> B) ==> A", ""}, {resolve.Drule, "q c", "(p c ==> B) ==> A", ""},
		{resolve.Drule, "p ?x ==> q ?y", "(!!z. p c ==> B) ==> A", "(!!z. q (?y z) ==> B) ==> A"}, {resolve.Drule, "p ?x ==> ?A", "(p c ==> B) ==> A", "(?A ==> B) ==> A"}, {resolve.Drule, "p ?x ==> (B ==> !!z. q z) ==> r ?x", "(p c ==> C) ==> A", "(!!z. B ==> q z) ==> (r c ==> C) ==> A"},
	} {
		rule, state := claimed(thy, x.rule), claimed(thy, x.state)
		l, more, e := resolve.First(rule, 0, state, x.kind, 8, 100)
		if got := all(t, l, e); got != x.want || more {
			t.Errorf("%d: %s\n want %s", i, got, x.want)
		}
	}
}

func TestAssumption(t *testing.T) {
	thy := world()
	for i, x := range []struct {
		state string
		at    int
		want  string
	}{
		{"(A ==> A) ==> B", 0, "B"}, {"(A ==> B) ==> C", 0, ""}, {"A ==> B", 0, ""}, {"A ==> (B ==> A ==> C ==> A) ==> D", 1, "A ==> D"}, {"(p c ==> p x ==> p ?y) ==> q ?y", 0, "q c | q x"}, {"(!!x. p x ==> p (?f x)) ==> A", 0, "A"},
		{"(!!x. p x ==> p ?y) ==> A", 0, ""}, {"(!!x. A ==> (!!y. l x y ==> l x y)) ==> B", 0, "B"}, {"((!!x. p x) ==> !!x. p x) ==> A", 0, ""}, {"((!!x. p x) ==> p c) ==> A", 0, ""}, {"(?A ==> B) ==> ?A", 0, "B"}, {"(q c ==> ?P c) ==> r (?f c)", 0, "r (?f c) | r (?f c)"},
		{"(same{fun(fun(n,n),fun(fun(n,n),prop))} (%x. s x) s ==> same{fun(fun(n,n),fun(fun(n,n),prop))} s s) ==> ((%x. p x) c)", 0, "p c"},
	} {
		l, more, e := resolve.Solved(x.at, claimed(thy, x.state), 8, 100)
		if got := all(t, l, e); got != x.want || more {
			t.Errorf("%d: %s\n want %s", i, got, x.want)
		}
	}
}

// Hypotheses and oracles are those of both, instantiated, but not made normal; none is lost where it is equal to a premise or an assumption.
func TestHypotheses(t *testing.T) {
	thy := world()
	for i, x := range []struct {
		kind        int
		rule, state kernel.Theorem
		want        string
	}{
		{resolve.Rule, claimed(thy, "A ==> B", "A"), claimed(thy, "B ==> C", "B"), "[A] [B] A ==> C"}, {resolve.Rule, claimed(thy, "A ==> B", "C"), claimed(thy, "(C ==> B) ==> D ==> E", "D", "C ==> A"), "[C] [D] [C ==> A] (C ==> A) ==> D ==> E"},
		{resolve.Rule, claimed(thy, "q ?x", "p ?x"), claimed(thy, "q c ==> A", "p ?y"), "[p c] [p ?y] A"}, {resolve.Rule, claimed(thy, "q ?x", "p ((%x. x) ?x)"), claimed(thy, "q c ==> A"), "[p ((%x. x) c)] A"},
		{resolve.Erule, claimed(thy, "A ==> C ==> B", "C"), claimed(thy, "(A ==> B) ==> C", "A"), "[A] [C] C ==> C"}, {resolve.Drule, claimed(thy, "A ==> B", "A", "B"), claimed(thy, "(A ==> D) ==> C", "D"), "[A] [B] [D] (B ==> D) ==> C"},
		{0, kernel.Theorem{}, claimed(thy, "(A ==> A) ==> A ==> B", "A"), "[A] A ==> B"}, {0, kernel.Theorem{}, claimed(thy, "(p ?x ==> p c) ==> A", "q ?x"), "[q c] A"},
	} {
		var l []kernel.Theorem
		var e api.Errno
		if x.kind == 0 {
			l, _, e = resolve.Solved(0, x.state, 8, 100)
		} else {
			l, _, e = resolve.First(x.rule, 0, x.state, x.kind, 8, 100)
		}
		if got := all(t, l, e); got != x.want {
			t.Errorf("%d: %s\n want %s", i, got, x.want)
		}
	}
	// oracles, and the greater theory
	greater := must(theory.Extend(thy, "U", api.Theory{Types: []api.TypeDecl{{Name: "u"}}}))
	rule := must(kernel.Oracle(greater, "other", prop("q ?x")))
	th := must(resolve.Of(claimed(thy, "q c ==> A"), rule, 8))
	if !slices.Equal(th.Oracles(), []string{"other", "trust"}) || th.Theory().Name != "U" || said(th) != "A" {
		t.Error(th.Oracles(), said(th))
	}
	taken(t, th)
}

func TestOf(t *testing.T) {
	thy := world()
	for i, x := range []struct{ rule, with, want string }{
		{"p ?x ==> q ?x ==> A", "p c", "q c ==> A"}, {"?A ==> ?B ==> ?A", "p ?x", "?B ==> p ?x#1"}, {"(A ==> B) ==> C", "B", "C"}, {"p ?x ==> q ?x", "r ?x ==> p (s ?x)", "r ?x#1 ==> q (s ?x#1)"},
	} {
		th, e := resolve.Of(claimed(thy, x.rule), claimed(thy, x.with), 8)
		if got := all(t, []kernel.Theorem{th}, e); got != x.want {
			t.Errorf("%d: %s\n want %s", i, got, x.want)
		}
	}
}

// The first ones are the same, however many are asked for; a sequence that is stopped has yielded these.
func TestLazy(t *testing.T) {
	thy := world()
	rule := claimed(thy, "l ?x ?y ==> ?P ?x ==> ?P ?y")
	state := claimed(thy, "l (s c) (s c) ==> (l c c ==> l c x ==> l c ?z) ==> A")
	whole, _, _ := resolve.First(rule, 0, state, resolve.Rule, 8, 1000)
	if len(whole) < 5 {
		t.Fatal(len(whole))
	}
	for n := range len(whole) + 2 {
		l, more, e := resolve.First(rule, 0, state, resolve.Rule, 8, n)
		if e != api.OK || more != (n < len(whole)) || len(l) != min(n, len(whole)) {
			t.Error(n, len(l), more)
		}
		k := 0
		seq := resolve.Compose(rule, 0, state, resolve.Rule, 8)
		for range 2 {
			k = 0
			for th := range seq {
				if k == n {
					break
				}
				if said(th) != said(whole[k]) {
					t.Error(n, k)
				}
				k++
			}
		}
		if k != min(n, len(whole)) {
			t.Error(n, k)
		}
	}
	if l, more, _ := resolve.Solved(1, state, 8, 1); !more || len(l) != 1 {
		t.Error(more)
	}
	// to a lesser depth there are fewer
	if l, _, _ := resolve.First(rule, 0, state, resolve.Rule, 0, 1000); len(l) >= len(whole) {
		t.Error(len(l))
	}
}

// The new variables of a unifier may have the names of others, which then must have the same types.
func TestCollisions(t *testing.T) {
	thy := world()
	rule := claimed(thy, "p ?x ==> q ?x")
	// ?x and ?y are unified by a new ?H with the index 2
	for i, x := range []struct{ state, want string }{
		{"q ?y ==> A", "p ?H#2 ==> A"}, {"q ?y ==> same{fun(n,fun(n,prop))} ?H#2{n} c", "p ?H#4 ==> same ?H#2 c"},
	} {
		l, _, e := resolve.First(rule, 0, claimed(thy, x.state), resolve.Rule, 8, 10)
		if got := all(t, l, e); got != x.want {
			t.Errorf("%d: %s\n want %s", i, got, x.want)
		}
	}
	// the state has a variable with this name and a greater index, and the rule a lesser one
	state := must(kernel.Oracle(thy, "trust", term.Imp(prop("q ?y"), prop("?H#7{prop}"))))
	l, _, e := resolve.First(rule, 0, state, resolve.Rule, 8, 10)
	if got := all(t, l, e); got != "p ?H#9 ==> ?H#7" {
		t.Error(got)
	}
	// an index above 1000000: the rule cannot be raised, or a new variable is none
	for i, s := range []string{"q c ==> p ?x#1000000", "q ?x#1000000 ==> A"} {
		if l, _, e := resolve.First(rule, 0, claimed(thy, s), resolve.Rule, 8, 10); e != api.OK || len(l) > 0 {
			t.Error(i, e, len(l))
		}
	}
	if l, _, e := resolve.First(claimed(thy, "q c"), 0, claimed(thy, "q c ==> p ?x#1000000"), resolve.Rule, 8, 10); e != api.OK || len(l) != 1 {
		t.Error(e, len(l))
	}
	if _, e := resolve.Raised(rule, claimed(thy, "p ?x#1000000")); e != api.ErrRange {
		t.Error(e)
	}
	if _, e := resolve.Lift(rule, 0, claimed(thy, "A ==> p ?x#999999")); e != api.OK {
		t.Error(e)
	}
	if _, e := resolve.Lift(rule, 0, claimed(thy, "A ==> p ?x#1000000")); e != api.ErrRange {
		t.Error(e)
	}
}

// imps returns a proposition with so many premises.
func imps(n int, premise, concl string) api.Term {
	t := prop(concl)
	for range n {
		t = term.Imp(prop(premise), t)
	}
	return t
}

// tower returns s (s (.. c)) with so many s.
func tower(n int) api.Term {
	t := prop("c")
	for range n {
		t = term.Apps(prop("s"), []api.Term{t})
	}
	return t
}

// bushy returns a proposition with 4n + 1 nodes and a small depth.
func bushy(n int) api.Term {
	l := slices.Repeat([]api.Term{prop("E")}, n+1)
	for len(l) > 1 {
		var next []api.Term
		for i := 0; i+1 < len(l); i += 2 {
			next = append(next, term.Imp(l[i], l[i+1]))
		}
		if len(l)%2 == 1 {
			next = append(next, l[len(l)-1])
		}
		l = next
	}
	return l[0]
}

// sized returns a proposition with n nodes (not with 2), without implications, and with a small depth.
func sized(n int) api.Term {
	leaf := api.Term{Op: api.Free, Name: "b", Type: types.Prop()}
	k := api.Term{Op: api.Free, Name: "k", Type: ty("fun(prop, fun(prop, prop))")}
	switch {
	case n == 1:
		return leaf
	case n == 3:
		return term.Apps(api.Term{Op: api.Free, Name: "j", Type: ty("fun(prop, prop)")}, []api.Term{leaf})
	case n%2 == 0:
		g := api.Term{Op: api.Free, Name: "i", Type: ty("fun(fun(prop, prop), prop)")}
		return term.Apps(g, []api.Term{{Op: api.Abs, Name: "x", Type: types.Prop(), Kids: []api.Term{sized(n - 3)}}})
	}
	left := (n - 3) / 2
	if left%2 == 0 {
		left--
	}
	return term.Apps(k, []api.Term{sized(left), sized(n - 3 - left)})
}

// resolved returns how many resolvents there are by Rule.
func resolved(t *testing.T, rule, state kernel.Theorem) int {
	t.Helper()
	l, _, e := resolve.First(rule, 0, state, resolve.Rule, 8, 10)
	if e != api.OK {
		t.Error(e)
	}
	return len(l)
}

func TestLimits(t *testing.T) {
	thy := world()
	vars := func(n, from int) api.Term {
		r := prop("B")
		for i := range n {
			r = term.Imp(prop(fmt.Sprintf("p ?v%d{n}", from+i)), r)
		}
		return r
	}
	nested := func(n int) api.Term { // p (s (.. c)) of a depth of n
		return term.Apps(prop("p"), []api.Term{tower(n - 2)})
	}
	a, toA := claimed(thy, "A"), claimed(thy, "A ==> B")
	for i, x := range []struct {
		rule, state kernel.Theorem
		want        int
	}{
		// 200 implications together, also those inside
		{claim(thy, imps(90, "C", "A")), claim(thy, term.Imp(prop("A"), bushy(109))), 0}, {claim(thy, imps(50, "C", "A")), claim(thy, imps(51, "A", "B")), 0}, {a, claim(thy, term.Imp(prop("A"), bushy(199))), 1}, {a, claim(thy, term.Imp(prop("A"), bushy(200))), 0},
		{claim(thy, term.Imp(bushy(99), prop("A"))), claim(thy, term.Imp(prop("A"), bushy(99))), 1}, {claim(thy, term.Imp(bushy(99), prop("A"))), claim(thy, term.Imp(prop("A"), bushy(100))), 0},
		// 100 hypotheses together
		{claim(thy, prop("A"), many(60)...), claim(thy, prop("A ==> B"), many(40)...), 1}, {claim(thy, prop("A"), many(60)...), claim(thy, prop("A ==> B"), many(41)...), 0}, {a, claim(thy, prop("A ==> B"), many(100)...), 1}, {a, claim(thy, prop("A ==> B"), many(101)...), 0},
		// 100 variables together
		{claim(thy, vars(30, 0)), claim(thy, term.Imp(prop("B"), vars(20, 50))), 1}, {a, claim(thy, term.Imp(prop("A"), wide(100))), 1}, {a, claim(thy, term.Imp(prop("A"), wide(101))), 0}, {claim(thy, term.Imp(wide(50), prop("A"))), claim(thy, term.Imp(prop("A"), wide(50))), 1},
		{claim(thy, term.Imp(wide(51), prop("A"))), claim(thy, term.Imp(prop("A"), wide(50))), 0}, {a, claim(thy, term.Imp(prop("A"), typed(100))), 1}, {a, claim(thy, term.Imp(prop("A"), typed(101))), 0},
		// 2000 nodes: of the state, of the rule, of the result, of a hypothesis
		{a, claim(thy, term.Imp(prop("A"), sized(1996))), 1}, {a, claim(thy, term.Imp(prop("A"), sized(1997))), 0}, {claim(thy, term.Imp(sized(1996), prop("A"))), toA, 1}, {claim(thy, term.Imp(sized(1997), prop("A"))), toA, 0},
		{claim(thy, term.Imp(sized(1000), prop("A"))), claim(thy, term.Imp(prop("A"), sized(997))), 1}, {claim(thy, term.Imp(sized(1000), prop("A"))), claim(thy, term.Imp(prop("A"), sized(998))), 0},
		{weak(claim(thy, prop("A")), sized(2000)), toA, 1}, {weak(claim(thy, prop("A")), sized(2001)), toA, 0}, {a, weak(claim(thy, prop("A ==> B")), sized(2000)), 1}, {a, weak(claim(thy, prop("A ==> B")), sized(2001)), 0},
		// 100 within each other
		{a, claim(thy, term.Imp(prop("A"), nested(99))), 1}, {a, claim(thy, term.Imp(prop("A"), nested(100))), 0}, {claim(thy, term.Imp(nested(98), prop("A"))), toA, 1}, {claim(thy, term.Imp(nested(99), prop("A"))), toA, 0},
	} {
		if n := resolved(t, x.rule, x.state); n != x.want {
			t.Error(i, n, x.want)
		}
	}
}

// wide returns a proposition with n variables, typed one with n type variables.
func wide(n int) api.Term {
	return balanced(n, func(i int) api.Term {
		return api.Term{Op: api.Var, Name: fmt.Sprint("v", i), Type: types.Prop()}
	})
}

func typed(n int) api.Term {
	return balanced(n, func(i int) api.Term {
		v := api.Type{Op: api.TVar, Name: fmt.Sprint("a", i)}
		k := api.Term{Op: api.Free, Name: fmt.Sprint("k", i), Type: types.Fun(types.Fun(v, v), types.Prop())}
		return term.Apps(k, []api.Term{{Op: api.Abs, Name: "x", Type: v, Kids: []api.Term{{Op: api.Bound}}}})
	})
}

func balanced(n int, leaf func(i int) api.Term) api.Term {
	k := api.Term{Op: api.Free, Name: "k", Type: ty("fun(prop, fun(prop, prop))")}
	var l []api.Term
	for i := range n {
		l = append(l, leaf(i))
	}
	for len(l) > 1 {
		var next []api.Term
		for i := 0; i+1 < len(l); i += 2 {
			next = append(next, term.Apps(k, l[i:i+2]))
		}
		if len(l)%2 == 1 {
			next = append(next, l[len(l)-1])
		}
		l = next
	}
	return l[0]
}

// What an instantiation makes, and its normal form, are within the limits, too.
func TestLimitsBehindTheInstantiation(t *testing.T) {
	thy := world()
	k := api.Term{Op: api.Free, Name: "k", Type: ty("fun(prop, fun(prop, prop))")}
	v := api.Term{Op: api.Var, Name: "A", Type: types.Prop()}
	// the rule's premise has its conclusion three times: the rule has 4n + 9 nodes then, the result 3n + 10
	rule := claim(thy, term.Imp(term.Apps(k, []api.Term{v, term.Apps(k, []api.Term{v, v})}), v))
	for n, want := range map[int]int{497: 1, 498: 0, 700: 0} {
		if got := resolved(t, rule, claim(thy, term.Imp(sized(n), prop("B")))); got != want {
			t.Error(n, got, want)
		}
	}
	// four times, and the conclusion is another one, to which a variable is bound: the result is larger than the rule
	wider := claim(thy, term.Imp(v, prop("A")))
	if got := resolved(t, wider, claimed(thy, "A ==> B")); got != 1 {
		t.Error(got)
	}
	// a hypothesis of the rule
	hyp := must(kernel.ImpElim(claim(thy, term.Imp(term.Apps(k, []api.Term{v, v}), v)), must(kernel.Assume(thy, term.Apps(k, []api.Term{v, v})))))
	for n, want := range map[int]int{998: 1, 999: 0} {
		if got := resolved(t, hyp, claim(thy, term.Imp(sized(n), prop("B")))); got != want {
			t.Error(n, got, want)
		}
	}
	// normal forms: each step doubles
	twice := prop("%A{prop}. A")
	twice.Kids[0] = term.Apps(k, []api.Term{{Op: api.Bound}, {Op: api.Bound}})
	same := prop("%A{prop}. A")
	for i, x := range []struct{ twice, same, want int }{{8, 0, 1}, {9, 0, 0}, {16, 0, 0}, {8, 2, 1}, {8, 3, 0}} { // the last one needs 1023 steps
		x0 := prop("C")
		for range x.same {
			x0 = term.Apps(same, []api.Term{x0})
		}
		for range x.twice {
			x0 = term.Apps(twice, []api.Term{x0})
		}
		if got := resolved(t, claimed(thy, "A"), claim(thy, term.Imp(prop("A"), x0))); got != x.want {
			t.Error(i, got, x.want)
		}
	}
	// a term on the way that is too large: what is thrown away has 1500 nodes so many times
	for n, want := range map[int]int{5: 1, 6: 0} {
		body := api.Term{Op: api.Bound}
		for range n - 1 {
			body = term.Apps(k, []api.Term{{Op: api.Bound}, body})
		}
		f := api.Term{Op: api.Abs, Name: "x", Type: types.Prop(), Kids: []api.Term{term.Apps(prop("%A{prop}. C"), []api.Term{body})}}
		x := term.Apps(f, []api.Term{sized(1500)})
		if got := resolved(t, claimed(thy, "A"), claim(thy, term.Imp(prop("A"), x))); got != want {
			t.Error(n, got, want)
		}
	}
}

// weak returns a theorem with a further hypothesis.
func weak(th kernel.Theorem, h api.Term) kernel.Theorem {
	return must(kernel.ImpElim(must(kernel.ImpIntro(h, th)), must(kernel.Assume(th.Theory(), h))))
}

func TestLiftLimits(t *testing.T) {
	thy := world()
	state := claimed(thy, "(!!x. C ==> D) ==> A")
	for i, x := range []struct {
		rule, state kernel.Theorem
		want        api.Errno
	}{
		{claim(thy, wide(100)), state, api.OK}, {claim(thy, wide(101)), state, api.ErrCount}, {claim(thy, wide(101)), claimed(thy, "C ==> D"), api.ErrCount}, {claim(thy, typed(101)), state, api.OK},
		{claim(thy, typed(100)), claimed(thy, "?A ==> B"), api.OK}, {claim(thy, typed(101)), claimed(thy, "?A ==> B"), api.ErrCount},
		// 500 hypotheses of the rule leave no place for what is assumed on the way
		{claim(thy, prop("A ==> B"), many(300)...), state, api.OK}, {manyHyps(thy, 500), state, api.OK},
		// too large, or too deep
		{claim(thy, term.Imp(sized(6000), prop("B"))), claim(thy, term.Imp(term.Imp(sized(6000), prop("A")), prop("B"))), api.OK}, {claim(thy, term.Imp(sized(9000), prop("B"))), claim(thy, term.Imp(term.Imp(sized(6000), prop("A")), prop("B"))), api.ErrLarge},
		{claimed(thy, "C ==> D ==> B"), claim(thy, term.Imp(imps(495, "C", "A"), prop("B"))), api.OK}, {claimed(thy, "C ==> D ==> B"), claim(thy, term.Imp(imps(496, "C", "A"), prop("B"))), api.ErrLarge},
		{claim(thy, imps(240, "C", "B")), claim(thy, term.Imp(imps(240, "C", "A"), prop("B"))), api.ErrLarge},
	} {
		th, e := resolve.Lift(x.rule, 0, x.state)
		if e != x.want || th.Is() != (e == api.OK) {
			t.Error(i, e, x.want)
		}
		if e == api.OK && len(th.Hyps()) != len(x.rule.Hyps()) {
			t.Error(i, len(th.Hyps()))
		}
	}
	// Raised by 0 has no limit
	if _, e := resolve.Raised(claim(thy, wide(101)), state); e != api.OK {
		t.Error(e)
	}
	if _, e := resolve.Raised(claim(thy, wide(101)), claimed(thy, "?A")); e != api.ErrCount {
		t.Error(e)
	}
	if _, e := resolve.Raised(claim(thy, typed(101)), claimed(thy, "?A")); e != api.ErrCount {
		t.Error(e)
	}
	// a type of functions of the parameters that is too large
	large := ty("n")
	for range 12 {
		large = types.Fun(large, large)
	}
	x := api.Term{Op: api.Free, Name: "x", Type: large}
	for n, want := range map[int]api.Errno{2: api.OK, 3: api.ErrLarge} {
		sub := prop("A")
		for range n {
			sub = term.All(x, sub)
		}
		if _, e := resolve.Lift(claimed(thy, "?B"), 0, claim(thy, term.Imp(sub, prop("C")))); e != want {
			t.Error(n, e)
		}
	}
}

func many(n int) []string {
	var l []string
	for i := range n {
		l = append(l, fmt.Sprintf("h%d{prop}", i))
	}
	return l
}

// manyHyps returns a theorem A ==> B with so many hypotheses, which need not stand in one term.
func manyHyps(thy api.Theory, n int) kernel.Theorem {
	th := claimed(thy, "A ==> B")
	for _, h := range many(n) {
		th = weak(th, prop(h))
	}
	return th
}
