package laws

import (
	"testing"

	"triforium/api"
	"triforium/checker"
	"triforium/classical"
	logic "triforium/hol"
	"triforium/kernel"
	"triforium/mixfix"
	"triforium/model"
	"triforium/outer"
	"triforium/proof"
	"triforium/sat"
	"triforium/simp"
	"triforium/tableau"
	"triforium/tactic"
	"triforium/term"
	"triforium/theory"
)

// TestReadme is the example of theorems and their proofs in README.md.
func TestReadme(t *testing.T) {
	a, _ := term.Read(`$A:prop`)
	h, e := kernel.Assume(theory.Pure(), a)
	th, f := kernel.ImpIntro(a, h)
	s, g := proof.Text(th.Proof())
	q, i := checker.Check(theory.Pure(), th.Proof())
	ok, x, j := model.Holds(theory.Pure(), model.Model{}, nil, a)
	if s != "(impI [$A:prop] (assume [$A:prop]))" || !checker.Same(q, stated(th)) || ok || len(x.Values) != 1 || x.Values[0] != (model.Value{Name: "A", Index: -1}) {
		t.Error(s, q, ok, x)
	}
	for _, e := range []api.Errno{e, f, g, i, j} {
		if e != api.OK {
			t.Error(e)
		}
	}
}

// TestReadmeTactic is the example of a goal in README.md.
func TestReadmeTactic(t *testing.T) {
	a, _ := term.Read(`$A:prop`)
	b, _ := term.Read(`$B:prop`)
	ab, e := kernel.Assume(theory.Pure(), term.Imp(a, b))
	by := tactic.Expr{Kind: tactic.Then, Kids: []tactic.Expr{{Kind: tactic.Rule}, {Kind: tactic.Assume}}}
	th, f := tactic.Prove(theory.Pure(), []kernel.Theorem{ab}, term.Imp(a, b), by, 10)
	if e != api.OK || f != api.OK || !term.Equal(th.Prop(), term.Imp(a, b)) || len(th.Hyps()) != 1 || !term.Equal(th.Hyps()[0], term.Imp(a, b)) {
		t.Error(e, f, th.Prop())
	}
}

// TestReadmeNotations is the example of notations and commands in README.md.
func TestReadmeNotations(t *testing.T) {
	thy, l := theory.Pure(), mixfix.Pure()
	x, e := mixfix.Read(thy, l, nil, "!!x. x == x ==> A", api.Type{})
	s, f := mixfix.Print(thy, l, nil, x)
	c, at, g := outer.Commands(`lemma a: "` + s + `" by this`)
	if e != api.OK || f != api.OK || g != api.OK || at != 0 || s != "!! x. x == x ==> A" || len(c) != 2 || len(c[0].Parts) != 3 || c[0].Parts[2].Text != s || c[1].Parts[0].Text != "this" {
		t.Error(e, f, g, s, c)
	}
}

// TestReadmeProvers is the example of a proposition of HOL in README.md.
func TestReadmeProvers(t *testing.T) {
	a := api.Term{Op: api.Free, Name: "a", Type: logic.BoolType()}
	x := logic.Implies(logic.And(a, logic.True()), a)
	set, e := simp.Standard(logic.HOL())
	same, f := simp.Rewrite(logic.HOL(), set, nil, x, 1, 50)
	first, g := classical.Prove(logic.HOL(), nil, logic.Truth(x), 1)
	second, h := tableau.Prove(logic.HOL(), x, 0, 50)
	third, i := sat.Tautology(logic.HOL(), x, 10)
	for _, e := range []api.Errno{e, f, g, h, i} {
		if e != api.OK {
			t.Fatal(e)
		}
	}
	if !term.Equal(same.Prop(), must(term.Eq(x, logic.True()))) {
		t.Error(textOf(same.Prop()))
	}
	for _, th := range []kernel.Theorem{first, second, third} {
		if !term.Equal(th.Prop(), logic.Truth(x)) {
			t.Error(textOf(th.Prop()))
		}
	}
}
