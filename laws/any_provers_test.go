package laws

import (
	"math/rand"
	"testing"

	"triforium/api"
	"triforium/arith"
	"triforium/classical"
	"triforium/conv"
	logic "triforium/hol"
	"triforium/kernel"
	"triforium/sat"
	"triforium/simp"
	"triforium/tableau"
	"triforium/term"
)

// formula returns a term of HOL's constants, mostly a right one of the type bool.
func (c chaos) formula(depth int) api.Term {
	if c.Intn(25) == 0 {
		return c.term(2)
	}
	if depth == 0 || c.Intn(6) == 0 {
		return []api.Term{free("a", boolean()), free("b", boolean()), logic.True(), logic.False(), schematic("v", boolean())}[c.Intn(5)]
	}
	a, b := c.formula(depth-1), c.formula(depth-1)
	switch c.Intn(9) {
	case 0:
		return logic.Not(a)
	case 1:
		return logic.And(a, b)
	case 2:
		return logic.Or(a, b)
	case 3:
		return logic.Implies(a, b)
	case 4:
		if t, e := logic.Equal(a, b); e == api.OK {
			return t
		}
	case 5:
		if t, e := logic.If(a, b, a); e == api.OK {
			return t
		}
	case 6:
		if t, e := logic.All(free("a", boolean()), a); e == api.OK {
			return t
		}
	case 7:
		if t, e := logic.Ex(free("b", boolean()), a); e == api.OK {
			return t
		}
	}
	n := must(logic.Numeral(c.Intn(4)))
	return app(constant([]string{"le", "less", "Equal"}[c.Intn(3)], fun(con("nat"), fun(con("nat"), boolean()))), n, free("n", con("nat")))
}

// stateOf returns a theorem of HOL, or none: an oracle's or an assumption.
func (c chaos) stateOf(thy api.Theory) kernel.Theorem {
	p := term.Protect(logic.Truth(free("a", boolean())))
	for range c.Intn(3) {
		g := logic.Truth(c.formula(2))
		for range c.Intn(3) {
			g = term.Imp(logic.Truth(c.formula(2)), g)
		}
		if c.Intn(3) == 0 {
			g = term.All(free("a", boolean()), g)
		}
		p = term.Imp(g, p)
	}
	th, _ := kernel.Assume(thy, p)
	return th
}

// ruleOf returns a theorem that may be a rule.
func (c chaos) ruleOf(thy api.Theory) kernel.Theorem {
	if c.Intn(12) == 0 {
		return c.theorem()
	}
	if c.Intn(2) == 0 {
		all := append(logic.Rules(), logic.NatRules()...)
		th, _ := logic.Rule(all[c.Intn(len(all))].Name)
		return th
	}
	p := logic.Truth(c.formula(2))
	if c.Intn(2) == 0 {
		if q, e := term.Eq(c.formula(2), c.formula(2)); e == api.OK {
			p = q
		}
	}
	th, _ := kernel.Assume(thy, p)
	return th
}

func (c chaos) convExpr(depth int) conv.Expr {
	e := conv.Expr{Kind: c.Intn(18)}
	if e.Kind == conv.Rule || c.Intn(12) == 0 {
		e.Num = c.number()
	}
	kids := 0
	if e.Kind >= conv.Then && e.Kind < conv.Norm {
		kids = 1
		if e.Kind <= conv.Else {
			kids = 2
		}
	}
	if c.Intn(12) == 0 {
		kids = c.Intn(4)
	}
	for depth > 0 && kids > 0 {
		e.Kids = append(e.Kids, c.convExpr(depth-1))
		kids--
	}
	return e
}

func (c chaos) set(thy api.Theory) simp.Set {
	var s simp.Set
	for c.Intn(3) > 0 {
		l, _ := simp.Extract(thy, c.ruleOf(thy))
		s.Rules = append(s.Rules, l...)
	}
	if c.Intn(3) == 0 {
		s, _ = simp.Standard(thy)
	}
	if c.Intn(8) == 0 {
		s.Congs = append(s.Congs, c.ruleOf(thy))
	}
	if c.Intn(4) == 0 {
		s.Procs = append(s.Procs, simp.Proc{Pattern: c.formula(1), Rules: []kernel.Theorem{c.ruleOf(thy)}, Expr: c.convExpr(2)})
	}
	return s
}

// wantNone looks whether there is no theorem beside an error.
func wantNone(t *testing.T, th kernel.Theorem, e api.Errno) {
	t.Helper()
	if th.Is() != (e == api.OK) {
		t.Fatal("a theorem and an error", e)
	}
	if th.Is() {
		taken(t, th)
	}
}

// Functions of layers 20 to 22 end without a panic for all values, with zero values beside an error, and proofs that are taken.
func TestAnyRewriting(t *testing.T) {
	c := chaos{rand.New(rand.NewSource(21))}
	thys := []api.Theory{logic.Nat(), logic.HOL(), logic.Nat(), logic.Nat(), logic.Nat()}
	right := 0
	for range 120 {
		thy := thys[c.Intn(5)]
		if c.Intn(12) == 0 {
			thy = c.theory()
		}
		s := c.set(thy)
		var e api.Errno
		want := func(th kernel.Theorem, code api.Errno) {
			t.Helper()
			wantNone(t, th, code)
			if e = code; e == api.OK {
				right++
			}
		}
		want(conv.Run(thy, []kernel.Theorem{c.ruleOf(thy), c.ruleOf(thy)}, c.convExpr(3), c.formula(3), []int{5, 50, 200, c.number()}[c.Intn(4)]))
		cv, code := conv.Make(thy, s.Rules, c.convExpr(2), 30)
		if (cv == nil) != (code != api.OK) {
			t.Fatal(code)
		}
		want(conv.Convert(cv, c.stateOf(thy)))
		depth, fuel := []int{0, 2, c.number()}[c.Intn(3)], []int{20, 60, c.number()}[c.Intn(3)]%300
		want(simp.Rewrite(thy, s, s.Rules, c.formula(3), depth, fuel))
		want(simp.Simplify(thy, s, c.stateOf(thy), depth, fuel))
		want(simp.Split(thy, c.formula(3)))
		want(simp.Cong(thy, c.ruleOf(thy)))
		simp.Ordered(thy, c.ruleOf(thy))
		state := c.stateOf(thy)
		th, solved, code := simp.Goal(s, state, c.Intn(3), depth, fuel)
		want(th, code)
		if code != api.OK && solved {
			t.Fatal("solved", code)
		}
		l, _ := classical.Standard(thy)
		if c.Intn(3) == 0 {
			l = append(l, classical.Rule{Theorem: c.ruleOf(thy), Kind: c.Intn(4), Safe: c.Intn(2) == 0})
		}
		th, n, code := classical.Safe(l, state, c.Intn(2), []int{30, c.number()}[c.Intn(2)]%60)
		want(th, code)
		th, m, code := classical.Search(l, state, c.Intn(2), []int{1, c.number()}[c.Intn(2)], []int{40, c.number()}[c.Intn(2)]%80)
		want(th, code)
		if code != api.OK && (n < 0 || m != 0) {
			t.Fatal(n, m)
		}
	}
	t.Log(right)
	if right < 120 {
		t.Error(right)
	}
}

// So do those of layers 23 to 25.
func TestAnyRefutation(t *testing.T) {
	c := chaos{rand.New(rand.NewSource(23))}
	thys := []api.Theory{logic.Nat(), logic.HOL(), logic.Nat(), must(arith.Extend(logic.Nat())), logic.Nat()}
	for range 200 {
		thy := thys[c.Intn(5)]
		if c.Intn(12) == 0 {
			thy = c.theory()
		}
		var l []api.Term
		for range c.Intn(4) {
			l = append(l, c.formula(3))
		}
		tree, e := tableau.Search(thy, l, []int{0, 1, c.number()}[c.Intn(3)], []int{50, c.number()}[c.Intn(2)])
		if e != api.OK && tree.Kind != 0 {
			t.Fatal("a tree and an error", e)
		}
		if c.Intn(3) == 0 {
			tree = c.tree(3)
		}
		th, f := tableau.Replay(thy, l, tree)
		wantNone(t, th, f)
		if g := tableau.Check(thy, l, tree); g != f {
			t.Fatal(f, g)
		}
		x := c.formula(3)
		th, e = tableau.Prove(thy, x, 1, 60)
		wantNone(t, th, e)
		th, e = sat.Tautology(thy, x, []int{99, c.number()}[c.Intn(2)])
		wantNone(t, th, e)
		clauses, atoms, e := sat.Clauses(x)
		if e != api.OK && len(clauses)+len(atoms) > 0 {
			t.Fatal(e)
		}
		var more []sat.Clause
		for range c.Intn(5) {
			more = append(more, sat.Clause{c.number(), c.number()}[:c.Intn(3)])
		}
		var p []sat.Step
		for range c.Intn(3) {
			p = append(p, sat.Step{A: c.number(), B: c.number(), Atom: c.number()})
		}
		th, e = sat.Rebuild(thy, atoms, more, p)
		wantNone(t, th, e)
		sat.Solve(more, c.number())
		sat.Trim(more, p)
		hyps := []api.Term{c.formula(2), c.formula(2)}[:c.Intn(3)]
		th, lines, e := arith.Prove(thy, hyps, c.formula(2), []int{99, c.number()}[c.Intn(2)])
		wantNone(t, th, e)
		if e != api.OK && len(lines) > 0 {
			t.Fatal(e)
		}
		arith.Rows(l)
		classical.Tautology(x)
		tableau.Kind(c.term(4))
		logic.Untruth(c.term(3))
		logic.Number(c.term(3))
		var rows []arith.Row
		for range c.Intn(4) {
			rows = append(rows, arith.Row{Coeffs: []int{c.number(), c.number()}, Bound: c.number()})
		}
		arith.Refute(rows, c.number())
		arith.Point(rows, c.number())
		arith.Derive(rows, []arith.Line{{Kind: c.number(), A: c.number(), B: c.number(), M: c.number(), N: c.number()}, {Kind: 1}})
	}
}

// tree returns any tree.
func (c chaos) tree(depth int) tableau.Tree {
	t := tableau.Tree{Kind: c.Intn(8), At: c.Intn(4), Other: c.Intn(3)}
	if c.Intn(6) == 0 {
		t.At, t.Other, t.Term = c.number(), c.number(), c.term(2)
	}
	for depth > 0 && c.Intn(2) == 0 {
		t.Kids = append(t.Kids, c.tree(depth-1))
	}
	return t
}
