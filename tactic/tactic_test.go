package tactic_test

import (
	"fmt"
	"slices"
	"strings"
	"testing"

	"triforium/api"
	"triforium/checker"
	"triforium/kernel"
	"triforium/proof"
	"triforium/tactic"
	"triforium/term"
	"triforium/theory"
	"triforium/types"
)

func must[T any](x T, e api.Errno) T {
	if e != api.OK {
		panic("error " + e.Error())
	}
	return x
}

// world is Pure with an oracle, the type n, and the constants k : prop and c : n.
func world() api.Theory {
	return must(theory.Extend(theory.Pure(), "T", api.Theory{Types: []api.TypeDecl{{Name: "n"}}, Oracles: []string{"trust"}, Consts: []api.ConstDecl{{Name: "k", Type: types.Prop()}, {Name: "c", Type: nat()}}}))
}

func nat() api.Type { return api.Type{Op: api.TCon, Name: "n"} }

// prop reads a proposition: `A ==> (B ==> C) ==> D`, where ?A is schematic, k the constant, `#A` protect A, `all A. B` one for all, and other letters are fixed.
func prop(s string) api.Term {
	s = strings.TrimSpace(s)
	if strings.HasPrefix(s, "all ") {
		name, rest, _ := strings.Cut(s[4:], ".")
		return term.All(prop(name), prop(rest))
	}
	depth := 0
	for i := range len(s) {
		depth += strings.Count("(", s[i:i+1]) - strings.Count(")", s[i:i+1])
		if depth == 0 && strings.HasPrefix(s[i:], "==>") {
			return term.Imp(prop(s[:i]), prop(s[i+3:]))
		}
	}
	switch {
	case s[0] == '(':
		return prop(s[1 : len(s)-1])
	case s[0] == '#':
		return term.Protect(prop(s[1:]))
	case s[0] == '?':
		return api.Term{Op: api.Var, Name: s[1:], Type: types.Prop()}
	case s == "k":
		return api.Term{Op: api.Const, Name: "k", Type: types.Prop()}
	}
	return api.Term{Op: api.Free, Name: s, Type: types.Prop()}
}

// show writes a proposition.
func show(t api.Term) string {
	if a, b, ok := term.IsImp(t); ok {
		return inner(a) + " ==> " + show(b)
	}
	if a, ok := term.IsProtect(t); ok {
		return "#" + inner(a)
	}
	if x, ok := term.IsAll(t); ok {
		return "all " + x.Name + ". " + show(term.Put(x.Kids[0], api.Term{Op: api.Free, Name: x.Name, Type: x.Type}))
	}
	if t.Op == api.Var {
		return "?" + t.Name
	}
	if a, b, ok := term.IsEq(t); ok {
		return show(a) + " == " + show(b)
	}
	return t.Name
}

// inner writes a part of a proposition.
func inner(t api.Term) string {
	_, _, implies := term.IsImp(t)
	if _, all := term.IsAll(t); all || implies {
		return "(" + show(t) + ")"
	}
	return show(t)
}

func said(th kernel.Theorem) string {
	s := ""
	for _, h := range th.Hyps() {
		s += "[" + show(h) + "] "
	}
	return s + show(th.Prop())
}

// claimed returns a theorem that an oracle states, with hypotheses.
func claimed(s string, hyps ...string) kernel.Theorem { return claim(world(), prop(s), hyps...) }

func claim(thy api.Theory, t api.Term, hyps ...string) kernel.Theorem {
	for _, h := range hyps {
		t = term.Imp(prop(h), t)
	}
	th := must(kernel.Oracle(thy, "trust", t))
	for _, h := range slices.Backward(hyps) {
		th = must(kernel.ImpElim(th, must(kernel.Assume(thy, prop(h)))))
	}
	return th
}

func equation(a, b string, hyps ...string) kernel.Theorem {
	return claim(world(), must(term.Eq(prop(a), prop(b))), hyps...)
}

// basic returns a basic expression, of a kind, At and Num; tactical one with Kids.
func basic(kind int, l ...int) tactic.Expr {
	e := tactic.Expr{Kind: kind}
	if len(l) > 0 {
		e.At = l[0]
	}
	if len(l) > 1 {
		e.Num = l[1]
	}
	return e
}

func tactical(kind int, l ...tactic.Expr) tactic.Expr { return tactic.Expr{Kind: kind, Kids: l} }

func rule(num int) tactic.Expr { return basic(tactic.Rule, 0, num) }

func cut(at int, s string) tactic.Expr {
	return tactic.Expr{Kind: tactic.Cut, At: at, Prop: prop(s)}
}

func then(l ...tactic.Expr) tactic.Expr { return joined(tactic.Then, l) }
func or(l ...tactic.Expr) tactic.Expr   { return joined(tactic.Or, l) }

func joined(kind int, l []tactic.Expr) tactic.Expr {
	e := l[len(l)-1]
	for _, x := range slices.Backward(l[:len(l)-1]) {
		e = tactical(kind, x, e)
	}
	return e
}

var pass, fail = basic(tactic.Pass), basic(tactic.Fail)

// taken looks whether the checker takes a proof.
func taken(t *testing.T, th kernel.Theorem) {
	t.Helper()
	s, e := checker.Check(th.Theory(), th.Proof())
	if e != api.OK || !checker.Same(s, checker.Sequent{Hyps: th.Hyps(), Prop: th.Prop(), Oracles: th.Oracles()}) {
		t.Error("not taken", e)
	}
}

// rules of the tests, by number.
func rules() []kernel.Theorem {
	return []kernel.Theorem{
		claimed("A ==> B"), claimed("A"), claimed("B ==> C ==> D"), claimed("A ==> (C ==> E) ==> E"), claimed("A ==> F"), equation("k", "A ==> A"), equation("A", "B ==> B", "E"), claimed("B", "H"), claimed("C ==> B"),
		claimed("?A ==> ?A ==> G"),
	}
}

// all returns what the states say.
func all(t *testing.T, l []kernel.Theorem) string {
	t.Helper()
	var r []string
	for _, th := range l {
		taken(t, th)
		r = append(r, said(th))
	}
	return strings.Join(r, " | ")
}

func TestRun(t *testing.T) {
	assume, each, first := basic(tactic.Assume), tactic.Each, tactic.First
	for i, x := range []struct {
		state string
		e     tactic.Expr
		want  string
	}{
		// basic tactics
		{"B ==> #B", pass, "B ==> #B"}, {"#B", pass, "#B"}, {"B ==> #B", fail, ""}, {"B ==> #B", rule(0), "A ==> #B"}, {"B ==> #B", rule(7), "[H] #B"}, {"B ==> #B", rule(2), ""}, {"C ==> D ==> #B", basic(tactic.Rule, 1, 2), "C ==> B ==> C ==> #B"}, {"B ==> #B", basic(tactic.Rule, 1, 0), ""},
		{"#B", rule(0), ""}, {"(A ==> E) ==> #B", basic(tactic.Erule, 0, 3), "(C ==> E) ==> #B"}, {"(A ==> C) ==> #B", basic(tactic.Drule, 0, 4), "(F ==> C) ==> #B"}, {"(A ==> A) ==> B ==> #B", assume, "B ==> #B"}, {"B ==> (A ==> A) ==> #B", assume, ""},
		{"B ==> (A ==> A) ==> #B", basic(tactic.Assume, 1), "B ==> #B"}, {"(?A ==> ?B ==> A) ==> ?A ==> #?B", assume, "A ==> #?B | ?A ==> #A"},
		// the order of subgoals
		{"A ==> B ==> C ==> #B", basic(tactic.Rotate), "B ==> C ==> A ==> #B"}, {"A ==> B ==> C ==> #B", basic(tactic.Rotate, 1), "A ==> C ==> B ==> #B"}, {"A ==> B ==> C ==> #B", basic(tactic.Rotate, 2), "A ==> B ==> C ==> #B"}, {"A ==> B ==> C ==> #B", basic(tactic.Rotate, 3), ""},
		{"A ==> A ==> B ==> A ==> #B", basic(tactic.Rotate, 0), "A ==> B ==> A ==> A ==> #B"},
		{"(A ==> B) ==> #B", basic(tactic.Protect), "#(A ==> B) ==> #B"}, {"C ==> #(A ==> B) ==> #B", basic(tactic.Protect, 1), "C ==> (A ==> B) ==> #B"}, {"##A ==> #B", basic(tactic.Protect), "#A ==> #B"}, {"C ==> #B", basic(tactic.Protect, 1), ""},
		{"(k ==> all B. k) ==> #k", basic(tactic.Unfold, 0, 5), "((A ==> A) ==> all B. A ==> A) ==> #k"}, {"(A ==> all A. A) ==> #A", basic(tactic.Unfold, 0, 6), "[E] ((B ==> B) ==> all A. A) ==> #A"}, {"(all B. A ==> B) ==> #A", basic(tactic.Unfold, 0, 6), "[E] (all B. (B ==> B) ==> B) ==> #A"},
		{"C ==> #k", basic(tactic.Unfold, 0, 5), ""}, {"k ==> #k", basic(tactic.Unfold, 0, 0), ""}, {"B ==> #A", basic(tactic.Unfold, 0, 6), ""}, {"C ==> A ==> #A", basic(tactic.Unfold, 1, 6), "[E] C ==> (B ==> B) ==> #A"},
		{"A ==> B ==> #B", cut(1, "C"), "A ==> C ==> (C ==> B) ==> #B"}, {"A ==> #B", cut(0, "?P"), "?P ==> (?P ==> A) ==> #B"}, {"A ==> #B", cut(1, "C"), ""}, {"A ==> A ==> #A", cut(0, "A"), "A ==> (A ==> A) ==> A ==> #A"},
		// tacticals
		{"B ==> #B", then(rule(0), rule(1)), "#B"}, {"B ==> #B", then(rule(0), rule(0)), ""}, {"B ==> #B", or(rule(0), rule(2), rule(8)), "A ==> #B | C ==> #B"}, {"B ==> #B", then(or(rule(0), rule(8)), or(pass, cut(0, "G"))), "A ==> #B | G ==> (G ==> A) ==> #B | C ==> #B | G ==> (G ==> C) ==> #B"},
		{"B ==> #B", tactical(tactic.Else, rule(2), rule(0)), "A ==> #B"}, {"B ==> #B", tactical(tactic.Else, or(rule(0), rule(8)), fail), "A ==> #B | C ==> #B"}, {"B ==> #B", tactical(tactic.Else, fail, fail), ""}, {"B ==> #B", tactical(tactic.Try, rule(2)), "B ==> #B"}, {"B ==> #B", tactical(tactic.Try, rule(0)), "A ==> #B"},
		{"D ==> #D", tactical(tactic.Repeat, or(rule(2), rule(0))), "A ==> C ==> #D"}, {"D ==> #D", tactical(tactic.Repeat, fail), "D ==> #D"}, {"D ==> #D", then(rule(2), tactical(tactic.Repeat, or(rule(8), rule(0)))), "C ==> C ==> #D | A ==> C ==> #D"},
		{"B ==> #B", tactical(first, or(rule(0), rule(8))), "A ==> #B"}, {"B ==> #B", tactical(first, fail), ""}, {"B ==> #B", then(tactical(first, or(rule(0), rule(8))), rule(8)), ""},
		{"B ==> #B", tactical(tactic.Solve, or(rule(0), rule(7))), "[H] #B"}, {"B ==> C ==> #B", tactical(tactic.Solve, then(rule(7), rule(7))), ""},
		// focus
		{"B ==> C ==> B ==> #B", tactical(each, tactical(tactic.Try, rule(0))), "A ==> C ==> A ==> #B"}, {"B ==> C ==> B ==> #B", tactical(each, rule(0)), ""}, {"#B", tactical(each, rule(0)), "#B"}, {"D ==> B ==> D ==> #B", tactical(each, or(rule(2), rule(0))), "B ==> C ==> A ==> B ==> C ==> #B"},
		{"B ==> B ==> #B", tactical(each, or(rule(0), rule(8))), "A ==> A ==> #B | C ==> A ==> #B | A ==> C ==> #B | C ==> C ==> #B"}, {"B ==> C ==> #B", tactical(each, basic(tactic.Rotate)), "B ==> C ==> #B"}, {"B ==> C ==> #B", tactical(each, basic(tactic.Rotate, 1)), ""},
		{"D ==> A ==> #B", tactical(each, tactical(tactic.Try, then(rule(2), basic(tactic.Rotate)))), "C ==> B ==> A ==> #B"}, {"D ==> D ==> #B", tactical(each, then(rule(2), basic(tactic.Rule, 0, 0))), "A ==> C ==> A ==> C ==> #B"}, {"D ==> A ==> #B", tactical(each, tactical(tactic.Try, then(rule(2), basic(tactic.Rule, 2, 1)))), "D ==> A ==> #B"},
		{"A ==> B ==> #B", tactical(each, tactical(tactic.Solve, or(rule(1), rule(7)))), "[H] #B"}, {"D ==> B ==> #B", tactical(each, then(tactical(tactic.Try, rule(2)), tactical(each, tactical(tactic.Try, rule(0))))), "A ==> C ==> A ==> #B"},
		{"B ==> B ==> #B", then(tactical(each, rule(0)), basic(tactic.Rotate, 1), basic(tactic.Rule, 1, 1)), "A ==> #B"},
	} {
		l, more, e := tactic.Run(world(), rules(), x.e, claimed(x.state), 100, 100)
		if got := all(t, l); e != api.OK || more || got != x.want {
			t.Errorf("%d: %v %s\n want %s", i, e, got, x.want)
		}
		if e := tactic.Form(x.e, len(rules())); e != api.OK {
			t.Error(i, e)
		}
	}
}

// No hypothesis is lost where it is equal to a subgoal.
func TestHypotheses(t *testing.T) {
	for i, x := range []struct {
		e    tactic.Expr
		want string
	}{
		{basic(tactic.Rotate), "[A] [B] [C] B ==> C ==> A ==> #B"}, {basic(tactic.Protect, 1), "[A] [B] [C] A ==> #B ==> C ==> #B"}, {cut(1, "A"), "[A] [B] [C] A ==> A ==> (A ==> B) ==> C ==> #B"}, {basic(tactic.Unfold, 0, 6), "[A] [B] [C] [E] (B ==> B) ==> B ==> C ==> #B"}, {rule(1), "[A] [B] [C] B ==> C ==> #B"},
		{pass, "[A] [B] [C] A ==> B ==> C ==> #B"},
	} {
		l, _, e := tactic.Run(world(), rules(), x.e, claimed("A ==> B ==> C ==> #B", "A", "B", "C"), 100, 100)
		if got := all(t, l); e != api.OK || got != x.want {
			t.Errorf("%d: %v %s\n want %s", i, e, got, x.want)
		}
	}
	// the equation is a hypothesis of the state
	q := must(term.Eq(prop("A"), prop("B ==> B")))
	own := must(kernel.ImpElim(must(kernel.ImpIntro(q, claimed("A ==> #B"))), must(kernel.Assume(world(), q))))
	if l, _, e := tactic.Run(world(), rules(), basic(tactic.Unfold, 0, 6), own, 100, 100); e != api.OK || all(t, l) != "[E] [A == B ==> B] (B ==> B) ==> #B" {
		t.Error(e, all(t, l))
	}
	// the hypothesis of the equation is a subgoal
	l, _, e := tactic.Run(world(), rules(), basic(tactic.Unfold, 1, 6), claimed("E ==> A ==> #B"), 100, 100)
	if got := all(t, l); e != api.OK || got != "[E] E ==> (B ==> B) ==> #B" {
		t.Error(e, got)
	}
}

func TestGoals(t *testing.T) {
	thy := world()
	for i, s := range []string{"A", "A ==> B", "all A. A ==> ?B", "#A", "?A"} {
		g, e := tactic.Goal(thy, prop(s))
		if e != api.OK || !term.Equal(g.Prop(), term.Imp(prop(s), term.Protect(prop(s)))) || len(g.Hyps())+len(g.Oracles()) > 0 {
			t.Error(i, e, said(g))
		}
		taken(t, g)
		l, e := tactic.Subgoals(g)
		if e != api.OK || len(l) == 0 || !term.Equal(l[0], prop(s)) {
			t.Error(i, e)
		}
		if _, e := tactic.Conclude(g); e != tactic.ErrGoal {
			t.Error(i, e)
		}
		th, e := tactic.Conclude(claim(thy, term.Protect(prop(s)), "H"))
		if e != api.OK || !term.Equal(th.Prop(), prop(s)) || len(th.Hyps()) != 1 {
			t.Error(i, e)
		}
		taken(t, th)
	}
	for i, x := range []struct {
		thy  api.Theory
		t    api.Term
		want api.Errno
	}{
		{api.Theory{}, prop("A"), api.ErrForm}, {thy, api.Term{}, api.ErrForm}, {thy, api.Term{Op: api.Const, Name: "c", Type: nat()}, api.ErrType}, {thy, api.Term{Op: api.Free, Name: "A", Type: api.Type{Op: api.TCon, Name: "m"}}, api.ErrMissing},
		{thy, sized(9996), api.OK}, {thy, sized(9997), api.OK}, {thy, sized(9998), api.ErrLarge}, {thy, sized(20000), api.ErrLarge}, {thy, sized(20001), api.ErrCount},
	} {
		if g, e := tactic.Goal(x.thy, x.t); e != x.want || g.Is() != (e == api.OK) {
			t.Error(i, e, x.want)
		}
	}
	for i, x := range []struct {
		th                kernel.Theorem
		conclude, subgoal api.Errno
	}{
		{kernel.Theorem{}, kernel.ErrNone, kernel.ErrNone}, {claimed("A"), tactic.ErrGoal, tactic.ErrGoal}, {claimed("A ==> B"), tactic.ErrGoal, tactic.ErrGoal}, {claimed("A ==> #B"), tactic.ErrGoal, api.OK}, {claimed("#(A ==> B)"), api.OK, api.OK}, {claimed("#A ==> B"), tactic.ErrGoal, tactic.ErrGoal},
	} {
		if _, e := tactic.Conclude(x.th); e != x.conclude {
			t.Error(i, e)
		}
		if l, e := tactic.Subgoals(x.th); e != x.subgoal || e != api.OK && len(l) > 0 {
			t.Error(i, e)
		}
	}
}

// sized returns a proposition with n nodes (not with 2), with a small depth.
func sized(n int) api.Term {
	p := types.Prop()
	switch {
	case n == 1:
		return prop("B")
	case n == 3:
		return term.Protect(prop("B"))
	case n%2 == 0:
		g := api.Term{Op: api.Free, Name: "i", Type: types.Fun(types.Fun(p, p), p)}
		return term.Apps(g, []api.Term{{Op: api.Abs, Name: "x", Type: p, Kids: []api.Term{sized(n - 3)}}})
	}
	left := (n - 3) / 2
	if left%2 == 0 {
		left--
	}
	return term.Imp(sized(left), sized(n-3-left))
}

func TestForm(t *testing.T) {
	deep := func(n int) tactic.Expr {
		e := pass
		for range n - 1 {
			e = tactical(tactic.Try, e)
		}
		return e
	}
	wide := func(n int) tactic.Expr { return joined(tactic.Then, slices.Repeat([]tactic.Expr{pass}, n)) } // 2n - 1 nodes
	balanced := func(n int) tactic.Expr {
		l := slices.Repeat([]tactic.Expr{pass}, n)
		for len(l) > 1 {
			l = append(l[2:], tactical(tactic.Or, l[0], l[1]))
		}
		return l[0]
	}
	for i, x := range []struct {
		e     tactic.Expr
		rules int
		want  api.Errno
	}{
		{pass, 0, api.OK}, {balanced(50), 0, api.OK}, {tactical(tactic.Try, balanced(50)), 0, api.OK}, {tactical(tactic.Try, tactical(tactic.Try, balanced(50))), 0, api.ErrCount}, {wide(51), 0, api.ErrCount}, {deep(20), 0, api.OK}, {deep(21), 0, api.ErrDepth}, {deep(101), 0, api.ErrCount},
		{tactic.Expr{}, 0, api.ErrForm}, {basic(19), 0, api.ErrForm}, {basic(-1), 0, api.ErrForm}, {basic(tactic.Then), 0, api.ErrForm}, {tactical(tactic.Then, pass), 0, api.ErrForm}, {tactical(tactic.Try, pass, pass), 0, api.ErrForm}, {tactical(tactic.Pass, pass), 0, api.ErrForm}, {tactical(tactic.Rule, pass), 1, api.ErrForm},
		{basic(tactic.Pass, 1), 0, api.ErrForm}, {basic(tactic.Fail, -1), 0, api.ErrForm}, {tactic.Expr{Kind: tactic.Try, At: 1, Kids: []tactic.Expr{pass}}, 0, api.ErrForm}, {basic(tactic.Assume, 0, 1), 2, api.ErrForm}, {basic(tactic.Rotate, 0, -1), 2, api.ErrForm}, {basic(tactic.Protect, 0, 1), 2, api.ErrForm}, {tactic.Expr{Kind: tactic.Cut, Num: 1, Prop: prop("A")}, 2, api.ErrForm},
		{tactic.Expr{Kind: tactic.Rule, Prop: prop("A")}, 1, api.ErrForm}, {tactic.Expr{Kind: tactic.Pass, Prop: api.Term{Kids: []api.Term{{}}}}, 1, api.ErrForm}, {tactic.Expr{Kind: tactic.Pass, Prop: api.Term{Kids: []api.Term{}}}, 1, api.OK}, {tactic.Expr{Kind: tactic.Cut}, 0, api.OK},
		{rule(0), 1, api.OK}, {rule(0), 0, api.ErrRange}, {rule(1), 1, api.ErrRange}, {rule(-1), 1, api.ErrRange}, {rule(0), -5, api.ErrRange}, {basic(tactic.Unfold, 0, 3), 3, api.ErrRange}, {basic(tactic.Drule, 100, 2), 3, api.OK}, {basic(tactic.Erule, 101, 2), 3, api.ErrRange}, {basic(tactic.Assume, -1), 3, api.ErrRange},
		{basic(tactic.Rotate, 101), 3, api.ErrRange}, {cut(101, "A"), 3, api.ErrRange}, {basic(tactic.Protect, 100), 0, api.OK}, {basic(tactic.Unfold, 101, -1), 0, api.ErrRange},
		// a node ahead of its Kids, and these in order
		{tactical(tactic.Then, rule(5), basic(99)), 1, api.ErrRange}, {tactical(tactic.Then, basic(99), rule(5)), 1, api.ErrForm}, {tactic.Expr{Kind: tactic.Try, Num: 1, Kids: []tactic.Expr{rule(5)}}, 1, api.ErrForm},
	} {
		if e := tactic.Form(x.e, x.rules); e != x.want {
			t.Error(i, e, x.want)
		}
	}
}

func TestErrors(t *testing.T) {
	thy := world()
	greater := must(theory.Extend(thy, "U", api.Theory{Types: []api.TypeDecl{{Name: "u"}}}))
	some, state, none := rules(), claimed("B ==> #B"), kernel.Theorem{}
	far := claim(greater, prop("A"))
	for i, x := range []struct {
		thy        api.Theory
		rules      []kernel.Theorem
		e          tactic.Expr
		state      kernel.Theorem
		fuel, most int
		make, run  api.Errno
	}{
		{thy, some, rule(0), state, 500, 100, api.OK, api.OK}, {thy, nil, pass, state, 0, 0, api.OK, api.OK}, {api.Theory{}, append(some, none), basic(99), none, -1, -1, api.ErrForm, api.ErrForm}, {thy, slices.Repeat(some[:1], 51), basic(99), none, -1, -1, api.ErrCount, api.ErrCount},
		{thy, slices.Repeat(some[:1], 50), rule(49), state, 9, 1, api.OK, api.OK}, {thy, []kernel.Theorem{some[0], none, far}, basic(99), none, -1, -1, kernel.ErrNone, kernel.ErrNone}, {thy, []kernel.Theorem{some[0], far, none}, basic(99), none, -1, -1, api.ErrTheory, api.ErrTheory}, {greater, []kernel.Theorem{some[0], far}, rule(0), state, 9, 1, api.OK, api.OK},
		{thy, some, basic(99), none, -1, -1, api.ErrForm, api.ErrForm}, {thy, some, rule(99), none, -1, -1, api.ErrRange, api.ErrRange}, {thy, some, pass, none, -1, -1, api.ErrRange, api.ErrRange}, {thy, some, pass, none, 501, -1, api.ErrRange, api.ErrRange},
		{thy, some, pass, none, 0, -1, api.OK, kernel.ErrNone}, {thy, some, pass, far, 0, -1, api.OK, api.ErrTheory}, {thy, some, pass, claimed("A"), 0, -1, api.OK, tactic.ErrGoal}, {thy, some, pass, state, 0, -1, api.OK, api.ErrRange}, {thy, some, pass, state, 0, 101, api.OK, api.ErrRange},
		{thy, some, rule(0), state, 0, 1, api.OK, api.ErrFuel},
	} {
		tac, e := tactic.Make(x.thy, x.rules, x.e, x.fuel)
		if e != x.make || (tac != nil) != (e == api.OK) {
			t.Error(i, e, x.make)
		}
		l, more, e := tactic.Run(x.thy, x.rules, x.e, x.state, x.fuel, x.most)
		if e != x.run || e != api.OK && (len(l) > 0 || more) {
			t.Error(i, e, x.run)
		}
		if _, e := tactic.Prove(x.thy, x.rules, prop("B"), x.e, x.fuel); x.make != api.OK && e != x.make {
			t.Error(i, e)
		}
		n := 0
		if tac != nil {
			for range tac(x.state) {
				n++
			}
		}
		if x.run == kernel.ErrNone || x.run == api.ErrTheory || x.run == tactic.ErrGoal {
			if n > 0 {
				t.Error(i, n)
			}
		}
	}
	for i, x := range []struct {
		prop api.Term
		e    tactic.Expr
		fuel int
		want api.Errno
	}{
		{prop("B"), then(rule(0), rule(1)), 2, api.OK}, {prop("B"), then(rule(0), rule(1)), 1, api.ErrFuel}, {api.Term{}, pass, 0, api.ErrForm}, {prop("B"), pass, 0, api.ErrFail}, {prop("B"), or(rule(0), rule(8)), 9, api.ErrFail}, {prop("B"), or(pass, rule(0), rule(7), tactical(tactic.Repeat, pass)), 2, api.OK},
		{api.Term{Op: api.Const, Name: "c", Type: nat()}, pass, 0, api.ErrType}, {prop("A ==> B"), then(basic(tactic.Rule, 0, 0), basic(tactic.Assume)), 9, api.OK}, {sized(20000), pass, 0, api.ErrLarge}, {prop("all A. A"), rule(0), 0, api.ErrFuel},
	} {
		th, e := tactic.Prove(thy, some, x.prop, x.e, x.fuel)
		if e != x.want || e == api.OK && !term.Equal(th.Prop(), x.prop) {
			t.Error(i, e, x.want)
		}
		if e == api.OK {
			taken(t, th)
		}
	}
	// the states are moved to the theory
	l, _, _ := tactic.Run(greater, some, pass, state, 0, 1)
	if l[0].Theory().Name != "U" {
		t.Error(l[0].Theory().Name)
	}
}

// Steps are basic tactics and Repeat; the run ends ahead of a step that there is no fuel for, but only if it is needed.
func TestFuel(t *testing.T) {
	state := claimed("B ==> #B")
	two := or(rule(0), rule(8))
	for i, x := range []struct {
		e          tactic.Expr
		most, fuel int // the least fuel with which there is no error
	}{
		{pass, 9, 0}, {fail, 9, 0}, {rule(0), 9, 1}, {basic(tactic.Rule, 1, 0), 9, 1}, {then(pass, rule(0), pass), 9, 1}, {then(rule(0), rule(1)), 9, 2}, {two, 9, 2}, {two, 1, 2}, {two, 0, 1}, {tactical(tactic.First, two), 9, 1}, {tactical(tactic.First, two), 0, 1},
		{or(pass, rule(0)), 0, 0}, {or(pass, rule(0)), 1, 1}, {tactical(tactic.Else, rule(0), rule(8)), 9, 1}, {tactical(tactic.Else, rule(2), rule(8)), 9, 2}, {tactical(tactic.Try, rule(2)), 9, 1}, {tactical(tactic.Repeat, fail), 9, 1}, {tactical(tactic.Repeat, rule(0)), 9, 4}, // Repeat, the rule, Repeat, the rule
		{tactical(tactic.Each, rule(0)), 9, 1}, {tactical(tactic.Solve, rule(0)), 9, 1}, {then(two, cut(0, "G")), 9, 4}, {then(two, cut(0, "G")), 1, 4}, {then(two, cut(0, "G")), 0, 2}, {then(fail, rule(0)), 9, 0}, {cut(0, "A"), 9, 1}, {basic(tactic.Rotate), 9, 1}, {basic(tactic.Protect), 9, 1}, {basic(tactic.Unfold, 0, 5), 9, 1}, {basic(tactic.Assume), 9, 1},
	} {
		for fuel := range 6 {
			want := api.OK
			if fuel < x.fuel {
				want = api.ErrFuel
			}
			if _, _, e := tactic.Run(world(), rules(), x.e, state, fuel, x.most); e != want {
				t.Error(i, fuel, e)
			}
		}
	}
	if _, _, e := tactic.Run(world(), rules(), tactical(tactic.Repeat, pass), state, 500, 1); e != api.ErrFuel {
		t.Error(e)
	}
	// a tactic has the whole fuel again with each call, and ends where it is used up
	tac := must(tactic.Make(world(), rules(), or(rule(0), rule(8), rule(7)), 2))
	s := tac(state)
	for range 3 {
		n := 0
		for range s {
			n++
		}
		for range tac(state) {
			n++
		}
		if n != 4 {
			t.Error(n)
		}
	}
	for th := range s { // left early
		taken(t, th)
		break
	}
}

// States that are too large are left out.
func TestLimits(t *testing.T) {
	thy := world()
	goals := func(n int, first string) kernel.Theorem {
		s := prop("#B")
		for range n - 1 {
			s = term.Imp(prop("C"), s)
		}
		return claim(thy, term.Imp(prop(first), s))
	}
	wide := func(n int) kernel.Theorem { return claim(thy, term.Imp(prop("B"), term.Protect(sized(n)))) } // n + 6 nodes
	deep := func(n int) kernel.Theorem {                                                                  // a depth of n
		t := prop("#B")
		for range n - 3 {
			t = term.Protect(t)
		}
		return claim(thy, term.Imp(prop("B"), t))
	}
	hyps := func(n int) kernel.Theorem {
		th := claimed("B ==> #B")
		for i := range n {
			h := prop(fmt.Sprint("h", i))
			th = must(kernel.ImpElim(must(kernel.ImpIntro(h, th)), must(kernel.Assume(thy, h))))
		}
		return th
	}
	for i, x := range []struct {
		state kernel.Theorem
		e     tactic.Expr
		want  int
	}{
		{goals(49, "D"), rule(2), 1}, {goals(50, "D"), rule(2), 0}, {goals(50, "B"), rule(0), 1}, {goals(51, "B"), rule(0), 0}, {goals(51, "B"), rule(7), 1}, {goals(60, "B"), pass, 1}, {goals(51, "B"), basic(tactic.Rotate), 0}, {goals(50, "B"), basic(tactic.Rotate), 1}, {goals(50, "B"), cut(0, "A"), 0}, {goals(49, "B"), cut(0, "A"), 1},
		{wide(1994), basic(tactic.Rotate), 1}, {wide(1995), basic(tactic.Rotate), 0}, {wide(1992), basic(tactic.Protect), 1}, {wide(1993), basic(tactic.Protect), 0}, {wide(1986), cut(0, "A"), 1}, {wide(1987), cut(0, "A"), 0}, {wide(5000), pass, 1},
		{deep(100), basic(tactic.Rotate), 1}, {deep(101), basic(tactic.Rotate), 0}, {deep(101), pass, 1}, {hyps(100), basic(tactic.Rotate), 1}, {hyps(101), basic(tactic.Rotate), 0}, {hyps(101), pass, 1}, {hyps(99), basic(tactic.Rule, 0, 7), 1}, {hyps(100), basic(tactic.Rule, 0, 7), 0},
		// what the kernel does not let be: types that differ
		{claim(thy, term.Imp(prop("B"), term.Protect(other("G")))), cut(0, "G"), 0}, {claim(thy, term.Imp(prop("B"), term.Protect(other("X")))), cut(0, "G"), 1}, {claim(thy, term.Imp(prop("A"), term.Protect(other("E")))), basic(tactic.Unfold, 0, 6), 0},
		// what is no proposition
		{claimed("B ==> #B"), tactic.Expr{Kind: tactic.Cut}, 0}, {claimed("B ==> #B"), tactic.Expr{Kind: tactic.Cut, Prop: api.Term{Op: api.Const, Name: "c", Type: nat()}}, 0},
	} {
		l, _, e := tactic.Run(thy, rules(), x.e, x.state, 10, 10)
		if e != api.OK || len(l) != x.want {
			t.Error(i, e, len(l), x.want)
		}
	}
}

// other returns a proposition with a variable of another type.
func other(name string) api.Term {
	q := api.Term{Op: api.Free, Name: "q", Type: types.Fun(nat(), types.Prop())}
	return term.Apps(q, []api.Term{{Op: api.Free, Name: name, Type: nat()}})
}

// What was given can be changed behind the call.
func TestOwn(t *testing.T) {
	some := rules()
	e := then(rule(0), cut(0, "G"))
	tac := must(tactic.Make(world(), some, e, 10))
	e.Kids[0].Num, e.Kids[1].Prop.Name, some[0] = 8, "X", some[2]
	var l []kernel.Theorem
	for th := range tac(claimed("B ==> #B")) {
		l = append(l, th)
	}
	if got := all(t, l); got != "G ==> (G ==> A) ==> #B" {
		t.Error(got)
	}
}

// The proof of a state that many steps have made is not too large, nor too deep.
func TestManySteps(t *testing.T) {
	s := prop("#B")
	for range 50 {
		s = term.Imp(prop("A"), s)
	}
	protect := basic(tactic.Protect)
	e := tactical(tactic.Each, then(protect, protect, protect, protect, protect, protect, protect, protect, protect))
	l, more, code := tactic.Run(world(), nil, e, claim(world(), s), 450, 9)
	if code != api.OK || more || len(l) != 1 || !strings.HasPrefix(show(l[0].Prop()), "#A ==> #A ==> ") {
		t.Fatal(code, len(l))
	}
	taken(t, l[0])
	if nodes, depth := proof.Size(l[0].Proof()); nodes > 200000 || depth > 2000 {
		t.Error(nodes, depth)
	}
}
