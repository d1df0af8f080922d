package resolve_test

import (
	"slices"
	"strconv"
	"strings"
	"testing"

	"triforium/api"
	"triforium/checker"
	"triforium/kernel"
	"triforium/resolve"
	"triforium/term"
	"triforium/theory"
	"triforium/types"
	"triforium/unify"
)

func TestSplit(t *testing.T) {
	for i, x := range []struct{ in, params, hyps, whole string }{
		{"A", "", "", "A"}, {"!!x. p x", "x", "", "!!x. p x"}, {"A ==> B", "", "A", "A ==> B"}, {"A ==> B ==> C", "", "A; B", "A ==> B ==> C"}, {"(A ==> B) ==> C", "", "A ==> B", "(A ==> B) ==> C"},
		{"!!x. !!y. p x ==> q y ==> l x y", "x y", "p $0; q $1", "!!x. !!y. p x ==> q y ==> l x y"}, {"!!x. p x ==> (!!y. q y ==> l x y)", "x y", "p $0; q $1", "!!x. !!y. p x ==> q y ==> l x y"},
		{"A ==> (!!x. p x)", "x", "A", "!!x. A ==> p x"}, {"!!x. (!!y. l x y) ==> (!!z. l z x ==> A)", "x z", "!!y. l $0 y; l $1 $0", "!!x. !!z. (!!y. l x y) ==> l z x ==> A"}, {"?A ==> ?B", "", "?A", "?A ==> ?B"},
	} {
		s := resolve.Split(prop(x.in))
		var params, hyps []string
		for _, p := range s.Params {
			if p.Op != api.Free || !types.Equal(p.Type, ty("n")) {
				t.Error(i, p)
			}
			params = append(params, p.Name)
		}
		for _, h := range s.Hyps {
			around := []string{}
			for k := range s.Params {
				around = append(around, "$"+strconv.Itoa(k))
			}
			hyps = append(hyps, show(h, around))
		}
		if strings.Join(params, " ") != x.params || strings.Join(hyps, "; ") != x.hyps {
			t.Error(i, params, hyps)
		}
		w := resolve.Whole(s)
		if shown(w) != x.whole {
			t.Error(i, shown(w))
		}
		if again := resolve.Split(w); len(again.Params) != len(s.Params) || !slices.EqualFunc(again.Hyps, s.Hyps, term.Equal) || !term.Equal(again.Concl, s.Concl) {
			t.Error(i, "other parts")
		}
		if u, e := term.Check(world(), w); e != api.OK || !types.Equal(u, types.Prop()) {
			t.Error(i, e)
		}
	}
}

// Any terms are taken apart: with loose bound variables, constants of other types, and what is no term.
func TestSplitAny(t *testing.T) {
	b := func(n int) api.Term { return api.Term{Op: api.Bound, Num: n} }
	imp := api.Term{Op: api.Const, Name: "imp", Type: ty("n")}
	all := api.Term{Op: api.Const, Name: "all"}
	abs := func(l ...api.Term) api.Term { return api.Term{Op: api.Abs, Name: "", Type: ty("'a"), Kids: l} }
	app := func(f api.Term, l ...api.Term) api.Term { return term.Apps(f, l) }
	s := resolve.Split(app(imp, b(0), app(all, abs(app(imp, app(b(0), b(1)), app(all, abs(app(b(0), app(b(1), b(2))))))))))
	if len(s.Params) != 2 || len(s.Hyps) != 2 || !term.Equal(s.Hyps[0], b(2)) || !term.Equal(s.Hyps[1], app(b(1), b(2))) || !term.Equal(s.Concl, app(b(0), app(b(1), b(2)))) || s.Params[0].Name != "" || !types.Equal(s.Params[1].Type, ty("'a")) {
		t.Error(s)
	}
	for i, x := range []api.Term{{}, app(imp, b(0)), app(all, b(0)), app(all, abs()), app(all, abs(b(0), b(0))), app(all, abs(b(0)), b(0)), app(imp, b(0), b(0), b(0)), {Op: api.App, Kids: []api.Term{imp}}, abs(b(0)), {Op: api.App}} {
		if s := resolve.Split(x); len(s.Params)+len(s.Hyps) != 0 || !term.Equal(s.Concl, x) {
			t.Error(i, s)
		}
	}
	// of parameters the name and the type count
	w := resolve.Whole(resolve.Subgoal{Params: []api.Term{{Op: 77, Name: "k", Num: 5, Type: ty("n"), Kids: []api.Term{{}}}}, Hyps: []api.Term{b(0)}, Concl: b(1)})
	if x, ok := term.IsAll(w); !ok || x.Name != "k" || !types.Equal(x.Type, ty("n")) || !term.Equal(x.Kids[0], term.Imp(b(0), b(1))) {
		t.Error(w)
	}
	if w := resolve.Whole(resolve.Subgoal{}); !term.Equal(w, api.Term{}) {
		t.Error(w)
	}
	// new memory
	in := prop("!!x. p x ==> q x")
	s = resolve.Split(in)
	s.Params[0].Type.Name, s.Hyps[0].Kids[0].Name, s.Concl.Kids[0].Name = "k", "k", "k"
	if shown(in) != "!!x. p x ==> q x" {
		t.Error(shown(in))
	}
	s = resolve.Split(in)
	w = resolve.Whole(s)
	w.Kids[1].Kids[0].Kids[1].Kids[0].Name = "k"
	if s.Concl.Kids[0].Name != "q" {
		t.Error("Whole shares memory")
	}
}

func TestRaised(t *testing.T) {
	thy := world()
	for i, x := range []struct {
		rule, state string
		hyps        []string
		stateHyps   []string
		want        string
	}{
		{"p ?x ==> q ?x", "A ==> B", nil, nil, "p ?x ==> q ?x"}, {"p ?x ==> q ?x#2", "p ?y ==> B", nil, nil, "p ?x#1 ==> q ?x#3"}, {"p ?x", "p ?y#6 ==> B", []string{"q ?x"}, nil, "[q ?x#7] p ?x#7"},
		{"p ?x", "A ==> B", nil, []string{"q ?z#3"}, "p ?x#4"}, {"p c", "p ?y#6 ==> B", nil, nil, "p c"}, {"p ?x", "A", nil, nil, "p ?x"}, {"p ?x", "same{fun(?a.4,fun(?a.4,prop))} x{?a.4} x{?a.4} ==> A", nil, nil, "p ?x#5"},
	} {
		th, e := resolve.Raised(claimed(thy, x.rule, x.hyps...), claimed(thy, x.state, x.stateHyps...))
		if e != api.OK || said(th) != x.want || !slices.Equal(th.Oracles(), []string{"trust"}) {
			t.Error(i, e, said(th))
		}
		taken(t, th)
	}
	// type variables, too
	th, e := resolve.Raised(claimed(thy, "same{fun(?a.0,fun(?a.0,prop))} ?v{?a.0} ?v{?a.0}"), claimed(thy, "p ?x#4 ==> A"))
	if e != api.OK || !types.Equal(term.Vars(th.Prop())[0].Type, ty("?a.5")) || term.Vars(th.Prop())[0].Num != 5 {
		t.Error(e, said(th))
	}
}

// taken looks whether the checker takes a proof.
func taken(t *testing.T, th kernel.Theorem) {
	t.Helper()
	s, e := checker.Check(th.Theory(), th.Proof())
	if e != api.OK || !checker.Same(s, checker.Sequent{Hyps: th.Hyps(), Prop: th.Prop(), Oracles: th.Oracles()}) {
		t.Error("not taken", e)
	}
}

func TestLift(t *testing.T) {
	thy := world()
	for i, x := range []struct {
		rule  string
		hyps  []string
		state string
		at    int
		want  string
	}{
		{"p ?x ==> q ?x", nil, "A ==> B", 0, "p ?x ==> q ?x"}, {"p ?x ==> q ?x", nil, "(C ==> A) ==> B", 0, "(C ==> p ?x) ==> C ==> q ?x"}, {"q ?x", nil, "D ==> (C ==> A) ==> B", 1, "C ==> q ?x"},
		{"p ?x ==> ?A ==> q ?x", nil, "(!!x. !!y. l x y ==> p x) ==> B", 0, "(!!x. !!y. l x y ==> p (?x x y)) ==> (!!x. !!y. l x y ==> ?A x y) ==> !!x. !!y. l x y ==> q (?x x y)"},
		// what is not flat; premises stay as they are; an index above the state's
		{"(!!z. p z ==> ?P z) ==> A", nil, "(!!x. p x ==> (!!y. q y ==> l x y)) ==> ?A#3", 0, "(!!x. !!y. p x ==> q y ==> !!z. p z ==> ?P#4 x y z) ==> !!x. !!y. p x ==> q y ==> A"},
		// a hypothesis that is equal to an assumption, or to a premise, stays
		{"?A ==> B", []string{"C", "D"}, "(C ==> A) ==> B", 0, "[C] [D] (C ==> ?A) ==> C ==> B"}, {"D ==> B", []string{"D", "C ==> D", "E"}, "(C ==> A) ==> B", 0, "[D] [E] [C ==> D] (C ==> D) ==> C ==> B"},
		{"A", []string{"p ?x"}, "(C ==> A) ==> B", 0, "[p ?x] C ==> A"}, {"p x", []string{"q x"}, "(!!x. p x) ==> B", 0, "[q x] !!x. p x"},
	} {
		rule, state := claimed(thy, x.rule, x.hyps...), claimed(thy, x.state)
		th, e := resolve.Lift(rule, x.at, state)
		if e != api.OK {
			t.Error(i, e)
			continue
		}
		if said(th) != x.want {
			t.Error(i, said(th), x.want)
		}
		taken(t, th)
	}
	// the variable of the rule is none of the parameters
	th, e := resolve.Lift(claimed(thy, "p x", "q x"), 0, claimed(thy, "(!!x. p x) ==> B"))
	want := term.All(named("y"), prop("p x"))
	if e != api.OK || !term.Equal(th.Prop(), want) || len(th.Hyps()) != 1 {
		t.Error(e, said(th))
	}
}

func TestErrors(t *testing.T) {
	thy := world()
	greater := must(theory.Extend(thy, "U", api.Theory{Types: []api.TypeDecl{{Name: "u"}}, Oracles: []string{"more"}}))
	other := must(theory.Extend(thy, "V", api.Theory{Types: []api.TypeDecl{{Name: "v"}}}))
	none := kernel.Theorem{}
	rule, state, withVar := claimed(thy, "p ?x ==> q ?x"), claimed(thy, "q c ==> A"), claimed(thy, "p ?x", "q ?x")
	params := claimed(thy, "(!!x. q x) ==> A")
	typed := func(s string) kernel.Theorem { return claimed(thy, s) }
	for i, x := range []struct {
		rule, state           kernel.Theorem
		at, kind, depth, most int
		want                  api.Errno
	}{
		{rule, state, 0, 1, 8, 10, api.OK}, {rule, state, 0, 2, 0, 0, api.OK}, {rule, state, 0, 3, unify.MaxDepth, 1000, api.OK},
		{none, none, 9, 9, -1, -1, kernel.ErrNone}, {rule, none, 9, 9, -1, -1, kernel.ErrNone}, {none, state, 9, 9, -1, -1, kernel.ErrNone},
		{claimed(greater, "A"), claimed(other, "A ==> B"), 9, 9, -1, -1, api.ErrTheory}, {claimed(greater, "A"), state, 0, 1, 8, 10, api.OK}, {rule, claimed(greater, "A ==> B"), 0, 1, 8, 10, api.OK},
		{typed("same{fun('a,fun('a,prop))} x{'a} y{'a}"), typed("same{fun(prop,fun(prop,prop))} x{prop} A ==> A"), 9, 9, -1, -1, api.ErrType}, {typed("p ?x"), typed("same{fun(prop,fun(prop,prop))} ?x{prop} A ==> A"), 9, 9, -1, -1, api.ErrType},
		{rule, state, 9, 0, -1, -1, api.ErrArgument}, {rule, state, 9, 4, -1, -1, api.ErrArgument}, {rule, state, 9, -1, -1, -1, api.ErrArgument},
		{rule, state, 1, 1, -1, -1, resolve.ErrSubgoal}, {rule, state, -1, 1, -1, -1, resolve.ErrSubgoal}, {rule, typed("A"), 0, 1, -1, -1, resolve.ErrSubgoal},
		{rule, state, 0, 1, -1, 0, api.ErrRange}, {rule, state, 0, 1, unify.MaxDepth + 1, 0, api.ErrRange}, {rule, state, 0, 1, 0, -1, api.ErrRange}, {rule, state, 0, 1, 0, 1001, api.ErrRange},
		{withVar, params, 0, 1, 0, 1001, api.ErrRange}, {withVar, params, 0, 1, 8, 10, api.ErrFail}, {withVar, state, 0, 1, 8, 10, api.OK}, {claimed(thy, "p ?x", "q c"), params, 0, 1, 8, 10, api.OK},
	} {
		l, more, e := resolve.First(x.rule, x.at, x.state, x.kind, x.depth, x.most)
		if e != x.want || e != api.OK && (more || len(l) > 0) {
			t.Error(i, e, x.want)
		}
		n := 0
		for range resolve.Compose(x.rule, x.at, x.state, x.kind, x.depth) {
			n++
		}
		if x.want != api.OK && x.most >= 0 && x.most <= 1000 && n > 0 {
			t.Error(i, n)
		}
		lift := x.want
		if lift == api.ErrArgument { // errors behind that of a kind
			lift = resolve.ErrSubgoal
		}
		if lift == api.ErrRange {
			lift = api.OK
			if x.rule.Is() && len(x.rule.Hyps()) > 0 {
				lift = api.ErrFail
			}
		}
		if th, e := resolve.Lift(x.rule, x.at, x.state); e != lift || th.Is() != (e == api.OK) {
			t.Error(i, "Lift", e, lift)
		}
		raised := x.want
		if raised != kernel.ErrNone && raised != api.ErrTheory && raised != api.ErrType {
			raised = api.OK
		}
		if th, e := resolve.Raised(x.rule, x.state); e != raised || th.Is() != (e == api.OK) {
			t.Error(i, "Raised", e, raised)
		}
	}
	for i, x := range []struct {
		state           kernel.Theorem
		at, depth, most int
		want            api.Errno
	}{
		{state, 0, 8, 10, api.OK}, {none, 5, -1, -1, kernel.ErrNone}, {state, 1, -1, -1, resolve.ErrSubgoal}, {state, -1, -1, -1, resolve.ErrSubgoal}, {state, 0, -1, 0, api.ErrRange}, {state, 0, 61, 0, api.ErrRange}, {state, 0, 0, -1, api.ErrRange}, {state, 0, 0, 1001, api.ErrRange},
	} {
		if l, more, e := resolve.Solved(x.at, x.state, x.depth, x.most); e != x.want || more || len(l) > 0 {
			t.Error(i, e)
		}
		for range resolve.Assumption(x.at, x.state, x.depth) {
			t.Error(i)
		}
	}
	for i, x := range []struct {
		rule, with kernel.Theorem
		depth      int
		want       api.Errno
	}{
		{rule, typed("p c"), 8, api.OK}, {none, none, -1, kernel.ErrNone}, {claimed(greater, "A"), claimed(other, "A ==> B"), -1, api.ErrTheory}, {typed("A"), rule, -1, resolve.ErrSubgoal}, {rule, typed("p c"), -1, api.ErrRange},
		{rule, typed("q c"), 8, api.ErrFail}, {params, withVar, 8, api.ErrFail}, {typed("same{fun(prop,fun(prop,prop))} x{prop} A ==> A"), typed("p x"), -1, api.ErrType},
	} {
		if th, e := resolve.Of(x.rule, x.with, x.depth); e != x.want || th.Is() != (e == api.OK) {
			t.Error(i, e)
		}
	}
}
