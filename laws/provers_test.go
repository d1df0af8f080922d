package laws

import (
	"math/rand"
	"slices"
	"testing"

	"triforium/api"
	"triforium/classical"
	logic "triforium/hol"
	"triforium/kernel"
	"triforium/model"
	"triforium/sat"
	"triforium/simp"
	"triforium/tableau"
	"triforium/term"
	"triforium/theory"
)

// provers makes random formulas.
type provers struct{ *rand.Rand }

// formula returns a term of connectives over variables, with quantifiers over bool, if they are wanted.
func (p provers) formula(depth int, quantifiers bool) api.Term {
	if depth == 0 || p.Intn(6) == 0 {
		return []api.Term{free("a", boolean()), free("b", boolean()), free("c", boolean()), logic.True(), logic.False()}[p.Intn(5)]
	}
	x, y := p.formula(depth-1, quantifiers), p.formula(depth-1, quantifiers)
	n := 5
	if quantifiers {
		n = 8
	}
	switch p.Intn(n) {
	case 0:
		return logic.Not(x)
	case 1:
		return logic.And(x, y)
	case 2:
		return logic.Or(x, y)
	case 3:
		return logic.Implies(x, y)
	case 4:
		return must(logic.Equal(x, y))
	case 5:
		return must(logic.All(free("a", boolean()), x))
	case 6:
		return must(logic.Ex(free("b", boolean()), x))
	}
	return must(logic.If(x, y, free("c", boolean())))
}

// P5: what one prover proves each of them that decides proves, and what one refutes none does.
func TestTwoRoads(t *testing.T) {
	thy := logic.HOL()
	set := must(simp.Standard(thy))
	yes := 0
	for seed := range int64(150) {
		x := provers{rand.New(rand.NewSource(seed))}.formula(3, false)
		is, _, e := classical.Tautology(x)
		if e != api.OK {
			t.Fatal(seed, e)
		}
		_, bySat := sat.Tautology(thy, x, 1000)
		_, byTableau := tableau.Prove(thy, x, 0, tableau.MaxNodes)
		_, bySearch := classical.Prove(thy, nil, logic.Truth(x), 1)
		if is != (bySat == api.OK) || is != (byTableau == api.OK) || !is && bySearch == api.OK {
			t.Fatal(seed, textOf(x), is, bySat, byTableau, bySearch)
		}
		th, e := simp.Rewrite(thy, set, nil, x, 2, 500)
		if e != api.OK {
			t.Fatal(seed, e)
		}
		_, r, _ := term.IsEq(th.Prop())
		if same, _, e := classical.Tautology(must(logic.Equal(x, r))); !same || e != api.OK {
			t.Fatal("the simplifier", seed, textOf(th.Prop()))
		}
		if is {
			yes++
		}
	}
	if yes < 20 {
		t.Error(yes)
	}
}

// What is proved of quantified formulas, and what the simplifier and splits state, holds in the standard model.
func TestProversAreSound(t *testing.T) {
	thy := logic.HOL()
	set := must(simp.Standard(thy))
	m := model.Model{Ground: []api.Type{boolean()}}
	holds := func(seed int64, th kernel.Theorem, e api.Errno) bool {
		t.Helper()
		if e != api.OK {
			return false
		}
		taken(t, th)
		if ok, _, e := model.Holds(thy, m, th.Hyps(), th.Prop()); e != api.ErrFuel && e != api.ErrLarge && (!ok || e != api.OK) {
			t.Fatal(seed, textOf(th.Prop()), e)
		}
		return true
	}
	counts := [5]int{}
	for seed := range int64(120) {
		x := provers{rand.New(rand.NewSource(seed))}.formula(3, true)
		for i, done := range []func() bool{
			func() bool { th, e := tableau.Prove(thy, x, 2, 300); return holds(seed, th, e) },
			func() bool { th, e := classical.Prove(thy, nil, logic.Truth(x), 1); return holds(seed, th, e) },
			func() bool { th, e := simp.Rewrite(thy, set, nil, x, 2, 500); return holds(seed, th, e) },
			func() bool { th, e := simp.Split(thy, x); return holds(seed, th, e) },
			func() bool { th, e := sat.Tautology(thy, x, 500); return holds(seed, th, e) },
		} {
			if done() {
				counts[i]++
			}
		}
	}
	t.Log(counts)
	if slices.Min(counts[:]) < 5 {
		t.Error(counts)
	}
}

// P21.4: without congruence rules, procedures, conditions and ordered equations a result is its own result, with any fuel.
func TestResultsAreNormal(t *testing.T) {
	thy := convWorld()
	thy = must(theory.Merge("M", logic.HOL(), thy))
	normal := 0
	for seed := range int64(200) {
		c := conversions{rand.New(rand.NewSource(seed)), thy}
		x, y := schematic("x", con("n")), schematic("y", con("n"))
		var s simp.Set
		for _, v := range [][2]api.Term{{c.con("f", x), x}, {c.con("g", x, c.con("a")), x}, {c.con("g", x, x), c.con("f", x)}, {c.con("g", c.con("f", x), y), c.con("g", y, x)}, {c.con("a"), c.con("b")}, {c.con("h", abs(con("n"), x)), x}} {
			if c.Intn(2) == 0 {
				s.Rules = append(s.Rules, must(kernel.Oracle(thy, "trust", must(term.Eq(v[0], v[1])))))
			}
		}
		if simp.Check(thy, s) != api.OK {
			t.Fatal(seed, simp.Check(thy, s))
		}
		th, e := simp.Rewrite(thy, s, nil, c.term(4, 0), 1, 300)
		if e != api.OK {
			continue
		}
		taken(t, th)
		_, r, _ := term.IsEq(th.Prop())
		again, e := simp.Rewrite(thy, s, nil, r, 0, 0)
		if e != api.OK || !term.Equal(again.Prop(), must(term.Eq(r, r))) {
			t.Fatal(seed, textOf(r), e)
		}
		normal++
	}
	if normal < 150 {
		t.Error(normal)
	}
}

// ifs returns how many Ifs a term has, and how many of its parts are equal to another one.
func ifs(t, of api.Term) (all, equal int) {
	for n := range term.Nodes(&t) {
		if n.Op == api.Const && n.Name == "If" {
			all++
		}
		if term.Equal(*n, of) {
			equal++
		}
	}
	return all, equal
}

// P21.6: each case has as many Ifs fewer as were taken, with those in the parts of them that are not there any more.
func TestSplitsTakeIfs(t *testing.T) {
	thy := logic.HOL()
	taken := 0
	for seed := range int64(150) {
		x := provers{rand.New(rand.NewSource(seed))}.formula(4, true)
		th, e := simp.Split(thy, x)
		if e != api.OK {
			continue
		}
		taken++
		_, right, _ := term.IsEq(th.Prop())
		_, cases := term.Spine(right)
		q := cases[0].Kids[0].Kids[1]
		var first api.Term
		for n := range term.Nodes(&x) {
			if _, l := term.Spine(*n); len(l) == 3 && n.Kids[0].Kids[0].Kids[0].Name == "If" && term.Closed(*n) {
				first = *n
				break
			}
		}
		_, args := term.Spine(first)
		total, k := ifs(x, first)
		inFirst, _ := ifs(first, q)
		for i, c := range cases {
			left, _ := ifs(c.Kids[1], first)
			kept, _ := ifs(args[1+i], first)
			if !term.Equal(args[0], q) || left != total-k*(inFirst-kept) {
				t.Fatal(seed, i, total, k, left, textOf(x))
			}
		}
		if !term.Equal(cases[1].Kids[0].Kids[1], logic.Not(q)) {
			t.Fatal(seed)
		}
	}
	if taken < 20 {
		t.Error(taken)
	}
}
