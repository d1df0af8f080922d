package kernel_test

import (
	"fmt"
	"math"
	"slices"
	"strings"
	"testing"

	"triforium/api"
	"triforium/checker"
	"triforium/kernel"
	"triforium/proof"
	"triforium/term"
	"triforium/types"
)

func typeBind(name string, index int, to string) api.TypeBind {
	return api.TypeBind{Name: name, Index: index, To: typ(to)}
}

func termBind(name string, index int, to string) api.TermBind {
	return api.TermBind{Name: name, Index: index, To: read(to)}
}

func inst(types []api.TypeBind, terms ...api.TermBind) api.Inst {
	return api.Inst{Types: types, Terms: terms}
}

func TestInstantiate(t *testing.T) {
	x := assume("(?p.0:fun(?a.0, prop) ?x.1:?a.0)")
	i := inst([]api.TypeBind{typeBind("a", 0, "nat"), typeBind("z", -5, "prop")}, termBind("p", 0, "(\\y:N . $A:P)"), termBind("q", 7, "zero:N"))
	y, e := kernel.Instantiate(i, x)
	want(t, y, e, "((\\y:N . $A:P) ?x.1:N)", []string{"((\\y:N . $A:P) ?x.1:N)"}, []string{}, api.Proof{Op: api.Instantiate, Inst: i, Kids: []api.Proof{x.Proof()}})
	// hypotheses that become equal stand once, and all are in order
	z := must(kernel.ImpElim(must(kernel.ImpIntro(read("$C:P"), must(kernel.ImpElim(must(kernel.ImpIntro(read("$B:P"), assume("?A.0:P"))), assume("$B:P"))))), assume("$C:P")))
	for _, c := range [][]string{{"$A:P", "A", "B", "C"}, {"$B:P", "B", "C"}, {"$D:P", "B", "C", "D"}} {
		w := must(kernel.Instantiate(inst(nil, termBind("A", 0, c[0])), z))
		var l []string
		for _, h := range w.Hyps() {
			l = append(l, h.Name)
		}
		if !slices.Equal(l, c[1:]) {
			t.Error(l, c)
		}
	}
	// binds are made at once
	w := must(kernel.Instantiate(inst(nil, termBind("A", 0, "?B.0:P"), termBind("B", 0, "?A.0:P")), trust("(("+imp+" ?A.0:P) ?B.0:P)")))
	if text(w.Prop()) != text(read("(("+imp+" ?B.0:P) ?A.0:P)")) {
		t.Error(text(w.Prop()))
	}
	v := must(kernel.Instantiate(inst([]api.TypeBind{typeBind("a", 0, "list(?a.0)")}, termBind("x", 1, "?x.1:list(?a.0)")), x))
	if text(v.Prop()) != "(?p.0:fun(list(?a.0), prop) ?x.1:list(?a.0))" {
		t.Error(text(v.Prop()))
	}
	if u := must(kernel.Instantiate(api.Inst{}, x)); !term.Equal(u.Prop(), x.Prop()) || u.Proof().Op != api.Instantiate {
		t.Error("no binds")
	}
}

func TestInstantiateErrors(t *testing.T) {
	x := assume("(($p:fun(?a.0{c}, fun(nat, prop)) ?x.0:?a.0{c}) $y:N)")
	var many []api.TypeBind
	var manyTerms []api.TermBind
	for i := range 101 {
		many = append(many, typeBind("t", i, "nat"))
		manyTerms = append(manyTerms, termBind("t", i, "zero:N"))
	}
	bad := api.TypeBind{Name: "a", To: api.Type{Op: 7}}
	badTerm := api.TermBind{Name: "x", To: api.Term{Op: 7}}
	for i, c := range []struct {
		i api.Inst
		e api.Errno
	}{
		{inst(many[:100], manyTerms[:100]...), api.OK}, {inst(many), api.ErrCount}, {inst(nil, manyTerms...), api.ErrCount}, {inst([]api.TypeBind{bad, bad}, manyTerms...), api.ErrCount},
		{inst([]api.TypeBind{bad, bad}), api.ErrDuplicate}, {inst(nil, badTerm, badTerm), api.ErrDuplicate}, {inst([]api.TypeBind{bad}, badTerm, badTerm), api.ErrDuplicate}, {inst([]api.TypeBind{typeBind("b", 0, "nat"), typeBind("b", 1, "nat"), typeBind("b", 0, "prop")}), api.ErrDuplicate}, {inst([]api.TypeBind{typeBind("x", 0, "nat")}, termBind("x", 0, "k:?a.0{c}")), api.OK},
		{inst([]api.TypeBind{bad}, badTerm), api.ErrForm}, {inst([]api.TypeBind{typeBind("b", 0, "none")}), api.ErrMissing}, {inst([]api.TypeBind{typeBind("a", 0, "prop"), typeBind("b", 0, "none")}), api.ErrSort}, {inst([]api.TypeBind{typeBind("b", 0, "none"), typeBind("a", 0, "prop")}), api.ErrMissing}, {inst([]api.TypeBind{typeBind("a", 0, "'b")}), api.ErrSort},
		{inst([]api.TypeBind{typeBind("a", 0, "'b{d}")}), api.OK}, {inst([]api.TypeBind{typeBind("a", 0, "list(nat)")}), api.OK}, {inst([]api.TypeBind{typeBind("a", 0, "list(prop)")}), api.ErrSort}, {inst([]api.TypeBind{typeBind("a", 1, "prop")}), api.OK}, {inst([]api.TypeBind{typeBind("", 0, "prop")}), api.OK}, {inst([]api.TypeBind{typeBind("a", 0, "?q.0{c,d}")}), api.ErrSort},
		{inst([]api.TypeBind{typeBind("a", 0, "prop")}, badTerm), api.ErrSort}, {inst(nil, badTerm), api.ErrForm}, {inst(nil, termBind("x", 0, "zero:N")), api.ErrType}, {inst([]api.TypeBind{typeBind("a", 0, "nat")}, termBind("x", 0, "zero:N")), api.OK}, {inst([]api.TypeBind{typeBind("a", 0, "nat")}, termBind("x", 0, "k:?a.0{c}")), api.ErrType},
		{inst(nil, termBind("x", 1, "zero:N")), api.OK}, {inst(nil, termBind("x", math.MinInt, "zero:N"), termBind("x", math.MaxInt, "zero:N")), api.OK}, {inst(nil, termBind("x", 0, "zero:N"), termBind("z", 0, "none:N")), api.ErrType}, {inst(nil, termBind("z", 0, "none:N"), termBind("x", 0, "zero:N")), api.ErrMissing},
		// of the result: sorts, then types, that differ
		{inst([]api.TypeBind{typeBind("a", 0, "list(?a.0{d})")}), api.OK}, {inst(nil, termBind("x", 0, "$y:?a.0{c}")), api.ErrType}, {inst([]api.TypeBind{typeBind("a", 0, "nat")}, termBind("x", 0, "$y:N")), api.OK}, {inst(nil, termBind("x", 0, "$p:?a.0{c}")), api.ErrType}, {inst(nil, termBind("x", 0, "($f:fun(?b.0, ?a.0{c}) $y:?b.0)")), api.ErrType}, {inst(nil, termBind("x", 0, "($f:fun(?a.0, ?a.0{c}) $g:?a.0)")), api.ErrSort},
		{inst(nil, termBind("x", 0, "($f:fun(?a.0{d}, nat) $g:?a.0{d})")), api.ErrType},
	} {
		if e := second(kernel.Instantiate(c.i, x)); e != c.e {
			t.Error(i, e, c.e)
		}
	}
	two := assume("((" + imp + " ($q:fun(?b.0, prop) $z:?b.0)) (($p:fun(?a.0{c}, fun(nat, prop)) ?x.0:?a.0{c}) $y:N))")
	if e := second(kernel.Instantiate(inst([]api.TypeBind{typeBind("a", 0, "?b.0{c}")}, termBind("x", 0, "($f:fun(prop, ?b.0{c}) $y:P)")), two)); e != api.ErrSort {
		t.Error("sorts of the result come ahead of types", e)
	}
}

func TestGeneralize(t *testing.T) {
	x := trust("(($p:fun('a{c}, fun('b, prop)) $x:'a{c}) ?x.1:'b)")
	y, e := kernel.Generalize([]string{"a", "none"}, []string{"x", "none"}, 3, x)
	want(t, y, e, "(($p:fun(?a.3{c}, fun('b, prop)) ?x.3:?a.3{c}) ?x.1:'b)", []string{}, []string{"trust"}, api.Proof{Op: api.Generalize, TypeNames: []string{"a", "none"}, TermNames: []string{"x", "none"}, Num: 3, Kids: []api.Proof{x.Proof()}})
	if z := must(kernel.Generalize(nil, nil, 0, x)); !term.Equal(z.Prop(), x.Prop()) || z.Proof().Op != api.Generalize {
		t.Error("no names")
	}
	h := must(kernel.ImpElim(trust("(("+imp+" ($q:fun('h, prop) $h:'h)) (($r:fun('b, fun(?t.5, prop)) $x:'b) ?v.5:?t.5))"), assume("($q:fun('h, prop) $h:'h)")))
	var names []string
	for i := range 101 {
		names = append(names, fmt.Sprint("n", i))
	}
	twice := []string{"a", "b", "a"}
	for i, c := range []struct {
		types, terms []string
		n            int
		e            api.Errno
	}{
		{nil, nil, -1, api.ErrRange}, {nil, nil, 1000000, api.OK}, {nil, nil, 1000001, api.ErrRange}, {names, twice, math.MinInt, api.ErrRange}, {names[:100], names[:100], 0, api.OK}, {names, nil, 0, api.ErrCount}, {nil, names, 0, api.ErrCount}, {twice, names, 0, api.ErrCount},
		{twice, nil, 0, api.ErrDuplicate}, {nil, twice, 0, api.ErrDuplicate}, {twice, []string{"h"}, 0, api.ErrDuplicate}, {[]string{"h"}, twice, 0, api.ErrDuplicate}, {[]string{"", "?"}, []string{"", "?"}, 0, api.OK}, {[]string{"x"}, []string{"x"}, 0, api.OK},
		{[]string{"h"}, nil, 0, api.ErrFail}, {nil, []string{"h"}, 0, api.ErrFail}, {nil, []string{"q"}, 0, api.ErrFail}, {[]string{"q"}, []string{"b"}, 0, api.OK}, {[]string{"b"}, []string{"x", "r"}, 0, api.OK},
		{[]string{"t"}, nil, 5, api.ErrFail}, {[]string{"t"}, nil, 4, api.OK}, {nil, []string{"v"}, 5, api.ErrFail}, {nil, []string{"v"}, 6, api.OK}, {[]string{"v"}, []string{"t"}, 5, api.OK},
	} {
		if e := second(kernel.Generalize(c.types, c.terms, c.n, h)); e != c.e {
			t.Error(i, e, c.e)
		}
	}
	// what a hypothesis has with the index counts, too
	g := assume("($q:fun(?t.2, prop) ?v.2:?t.2)")
	for i, e := range []api.Errno{second(kernel.Generalize([]string{"t"}, nil, 2, g)), second(kernel.Generalize(nil, []string{"v"}, 2, g))} {
		if e != api.ErrFail {
			t.Error(i, e)
		}
	}
}

// implications returns A1 ==> .. ==> An ==> B, as a theorem with as many hypotheses as it takes.
func manyHyps(n int) kernel.Theorem {
	thy := numbers()
	x := must(kernel.Oracle(thy, "trust", read("$A:P")))
	for i := range n {
		h := fmt.Sprintf("$H%d:P", i)
		x = must(kernel.ImpElim(must(kernel.ImpIntro(read(h), x)), must(kernel.Assume(thy, read(h)))))
	}
	return x
}

func TestMaxHyps(t *testing.T) {
	x := manyHyps(api.MaxHyps)
	if len(x.Hyps()) != api.MaxHyps {
		t.Fatal(len(x.Hyps()))
	}
	y := must(kernel.ImpIntro(read("$N:P"), x))
	if e := second(kernel.ImpElim(y, assume("$N:P"))); e != api.ErrCount {
		t.Error(e)
	}
	if e := second(kernel.ImpElim(y, trust("$N:P"))); e != api.OK {
		t.Error(e)
	}
	if e := second(kernel.ImpElim(must(kernel.ImpIntro(read("$H7:P"), x)), assume("$H7:P"))); e != api.OK {
		t.Error(e)
	}
}

// sum returns a term of the type nat with a number of nodes, which is odd.
func sum(nodes int) api.Term {
	plus, x := read("$plus:fun(nat, fun(nat, nat))"), read("$x:N")
	if nodes < 5 {
		for range (nodes - 1) / 2 {
			x = term.Apps(read("suc:fun(nat, nat)"), []api.Term{x})
		}
		return x
	}
	half := (nodes - 3) / 2
	if half%2 == 0 {
		half--
	}
	return api.Term{Op: api.App, Kids: []api.Term{{Op: api.App, Kids: []api.Term{plus, sum(half)}}, sum(nodes - 3 - half)}}
}

// nest returns a term of the type nat with so many nodes within each other.
func nest(depth int) api.Term {
	x := read("$x:N")
	for range depth - 1 {
		x = api.Term{Op: api.App, Kids: []api.Term{read("suc:fun(nat, nat)"), x}}
	}
	return x
}

// nestType returns a type with so many nodes within each other.
func nestType(depth int) api.Type {
	x := types.Prop()
	for range depth - 1 {
		x = api.Type{Op: api.TCon, Name: "list", Args: []api.Type{x}}
	}
	return x
}

func TestLargeResults(t *testing.T) {
	thy := numbers()
	if n, _ := term.Size(sum(9997)); n != 9997 {
		t.Fatal(n)
	}
	free := func(u api.Type) api.Term { return api.Term{Op: api.Free, Name: "z", Type: u} }
	tree := func(depth int) api.Type { // with 2^depth - 1 nodes
		u := typ("nat")
		for range depth - 1 {
			u = types.Fun(u, u)
		}
		return u
	}
	for i, c := range []struct {
		t api.Term
		e api.Errno
	}{
		// eq t t has 2 nodes more within each other at most, and 3 more of its own
		{sum(9997), api.OK}, {sum(9999), api.ErrLarge}, {nest(498), api.OK}, {nest(499), api.ErrLarge}, {nest(500), api.ErrLarge}, {nest(501), api.ErrDepth},
		// eq has the type fun(t, fun(t, prop))
		{free(nestType(498)), api.OK}, {free(nestType(499)), api.ErrLarge}, {free(nestType(501)), api.ErrDepth}, {free(tree(13)), api.OK}, {free(tree(14)), api.ErrLarge}, {free(tree(15)), api.ErrCount},
	} {
		if e := second(kernel.Reflexive(thy, c.t)); e != c.e {
			t.Error(i, e, c.e)
		}
	}
	// the hypotheses of an instance are looked at, too
	h := must(kernel.ImpElim(must(kernel.ImpIntro(read("($q:fun(nat, prop) ?x.0:N)"), trust("$A:P"))), assume("($q:fun(nat, prop) ?x.0:N)")))
	if e := second(kernel.Instantiate(inst(nil, api.TermBind{Name: "x", To: nest(500)}), h)); e != api.ErrLarge {
		t.Error(e)
	}
	if e := second(kernel.Instantiate(inst(nil, api.TermBind{Name: "x", To: nest(499)}), h)); e != api.OK {
		t.Error(e)
	}
	if e := second(kernel.Instantiate(inst([]api.TypeBind{{Name: "a", To: nestType(500)}}), trust("($q:fun(?a.0, prop) $z:?a.0)"))); e != api.ErrLarge {
		t.Error(e)
	}
	if e := second(kernel.Instantiate(inst([]api.TypeBind{{Name: "a", To: nestType(499)}}), trust("($q:fun(?a.0, prop) $z:?a.0)"))); e != api.OK {
		t.Error(e)
	}
	// far too large: it is not built
	many := api.Term{Op: api.Abs, Name: "x", Type: typ("nat"), Kids: []api.Term{term.Bind(read("$x:N"), sum(15001))}}
	every := must(kernel.Oracle(thy, "trust", term.All(read("$x:N"), must(term.Eq(sum(9001), read("$x:N"))))))
	if e := second(kernel.AllElim(sum(15001), every)); e != api.ErrLarge {
		t.Error(e)
	}
	beta := api.Term{Op: api.App, Kids: []api.Term{many, sum(4001)}}
	if e := second(kernel.Beta(thy, beta)); e != api.ErrLarge {
		t.Error(e)
	}
	// a large term comes ahead of sorts that differ
	wide := must(kernel.Oracle(thy, "trust", term.Apps(read("$q:fun(?a.0, fun(nat, prop))"), []api.Term{read("?x.0:?a.0"), read("?y.0:N")})))
	bad := inst(nil, termBind("x", 0, "($f:fun(?b.0{c}, ?a.0) ?z.0:?b.0{c})"), api.TermBind{Name: "y", To: term.Apps(read("$g:fun(?b.0, fun(nat, nat))"), []api.Term{read("?w.0:?b.0"), nest(499)})})
	if e := second(kernel.Instantiate(bad, wide)); e != api.ErrLarge {
		t.Error(e)
	}
	bad.Terms[1].To = read("($g:fun(?b.0, nat) ?w.0:?b.0)")
	if e := second(kernel.Instantiate(bad, wide)); e != api.ErrSort {
		t.Error(e)
	}
}

// A variable whose type becomes too large for a type of a term can be replaced by a term whose type is as large.
func TestInstantiateLargeTypes(t *testing.T) {
	thy := numbers()
	deep := nestType(500)
	x := must(kernel.Oracle(thy, "trust", read("((\\y:fun(?a.0, nat) . $A:P) ?x.0:fun(?a.0, nat))")))
	f := api.Term{Op: api.Abs, Name: "z", Type: deep, Kids: []api.Term{read("zero:N")}}
	if e := second(kernel.Instantiate(inst([]api.TypeBind{{Name: "a", To: deep}}, api.TermBind{Name: "x", To: f}), x)); e != api.ErrLarge { // the type of y
		t.Error(e)
	}
	y := must(kernel.Oracle(thy, "trust", read("((eq:fun(prop, fun(prop, prop)) (?p.0:fun(fun(?a.0, nat), prop) ?x.0:fun(?a.0, nat))) $A:P)")))
	p := api.Term{Op: api.Abs, Name: "g", Type: typ("nat"), Kids: []api.Term{read("$A:P")}}
	if e := second(kernel.Instantiate(inst([]api.TypeBind{{Name: "a", To: deep}}, api.TermBind{Name: "x", To: f}, api.TermBind{Name: "p", To: p}), y)); e != api.ErrType {
		t.Error(e)
	}
	if e := second(kernel.Instantiate(inst([]api.TypeBind{{Name: "a", To: deep}}, api.TermBind{Name: "x", To: f}), y)); e != api.ErrLarge { // the type of ?p
		t.Error(e)
	}
	z := must(kernel.Oracle(thy, "trust", read("($q:fun(nat, prop) ((\\y:?a.0 . (?x.0:fun(?a.0, nat) #0)) $t:?a.0))")))
	w, e := kernel.Instantiate(inst([]api.TypeBind{{Name: "a", To: deep}}, api.TermBind{Name: "x", To: f}), z)
	if e != api.OK {
		t.Fatal(e)
	}
	s, e := checker.Check(thy, w.Proof())
	if e != api.OK || !term.Equal(s.Prop, w.Prop()) {
		t.Error("the checker", e)
	}
	if e := second(kernel.Instantiate(inst([]api.TypeBind{{Name: "a", To: deep}}), z)); e != api.ErrLarge {
		t.Error(e)
	}
}

// sizedProof returns a theorem whose proof has a number of nodes.
func sizedProof(nodes int) kernel.Theorem {
	switch {
	case nodes == 1:
		return refl("$A:P")
	case nodes%2 == 0:
		return must(kernel.Symmetric(sizedProof(nodes - 1)))
	}
	x := sizedProof((nodes - 1) / 2)
	return must(kernel.Transitive(x, x))
}

func TestLargeProofs(t *testing.T) {
	thy := numbers()
	x := must(kernel.Reflexive(thy, read("$A:P")))
	for range 19 {
		x = must(kernel.Transitive(x, x))
	} // 2^20 - 1 nodes
	if e := second(kernel.Transitive(x, x)); e != api.ErrLarge {
		t.Error(e)
	}
	z := sizedProof(api.MaxProof)
	if n, _ := proof.Size(z.Proof()); n != api.MaxProof {
		t.Error(n)
	}
	if e := second(kernel.Symmetric(z)); e != api.ErrLarge {
		t.Error(e)
	}
	if e := second(kernel.Transfer(more(), z)); e != api.OK {
		t.Error(e)
	}
	u := must(kernel.Reflexive(thy, read("$A:P")))
	for range 29999 {
		u = must(kernel.Symmetric(u))
	}
	if n, d := proof.Size(u.Proof()); n != 30000 || d != 30000 {
		t.Error(n, d)
	}
	if e := second(kernel.Symmetric(u)); e != api.ErrLarge {
		t.Error(e)
	}
	if e := second(kernel.ImpIntro(read("$x:N"), u)); e != api.ErrType {
		t.Error(e)
	}
}

func TestPlay(t *testing.T) {
	l := []api.Theory{numbers(), more(), {Name: "1"}}
	a := read("$A:P")
	script := []kernel.Step{
		{Rule: api.Assume, Term: a}, {Rule: api.ImpIntro, Term: a, From: []int{0}, Theory: 99, Name: "plays no part"}, {Rule: kernel.TransferRule, Theory: 1, From: []int{1}}, {Rule: api.ImpElim, From: []int{2, 0}},
		{Rule: api.ByAxiom, Name: "ax", Theory: 1}, {Rule: api.Instantiate, Inst: inst(nil, termBind("A", 0, "$B:P")), From: []int{4}}, {Rule: api.Generalize, TermNames: []string{"B"}, Num: 4, From: []int{5}}, {Rule: api.ByOracle, Name: "zeal", Theory: 1, Term: a},
		{Rule: api.EqIntro, From: []int{1, 1}}, {Rule: api.EqElim, From: []int{8, 7}}, {Rule: api.Symmetric, From: []int{8}}, {Rule: api.Transitive, From: []int{8, 10}}, {Rule: api.Reflexive, Term: read("$f:fun(prop, nat)")}, {Rule: api.Combination, From: []int{12, 11}},
		{Rule: api.Abstraction, Term: a, From: []int{13}}, {Rule: api.Beta, Term: read("((\\x:N . #0) zero:N)")}, {Rule: api.Eta, Term: read("(\\x:N . (suc:fun(nat, nat) #0))")}, {Rule: api.AllIntro, Term: a, From: []int{1}}, {Rule: api.AllElim, Term: read("$C:P"), From: []int{17}},
	}
	wanted := []string{
		"$A:P", "((" + imp + " $A:P) $A:P)", "((" + imp + " $A:P) $A:P)", "$A:P", "?A.0:P", "$B:P", "?B.4:P", "$A:P", "((" + eqp + " $A:P) $A:P)", "$A:P", "((" + eqp + " $A:P) $A:P)", "((" + eqp + " $A:P) $A:P)",
		"((eq:fun(fun(prop, nat), fun(fun(prop, nat), prop)) $f:fun(prop, nat)) $f:fun(prop, nat))", "((" + eqn + " ($f:fun(prop, nat) $A:P)) ($f:fun(prop, nat) $A:P))",
		"((eq:fun(fun(prop, nat), fun(fun(prop, nat), prop)) (\\A:P . ($f:fun(prop, nat) #0))) (\\A:P . ($f:fun(prop, nat) #0)))", "((" + eqn + " ((\\x:N . #0) zero:N)) zero:N)",
		"((eq:fun(fun(nat, nat), fun(fun(nat, nat), prop)) (\\x:N . (suc:fun(nat, nat) #0))) suc:fun(nat, nat))", "(all:fun(fun(prop, prop), prop) (\\A:P . ((" + imp + " #0) #0)))", "((" + imp + " $C:P) $C:P)",
	}
	for i, r := range kernel.Play(l, script) {
		if r.Code != api.OK || !r.Theorem.Is() || !term.Equal(r.Theorem.Prop(), read(wanted[i])) {
			t.Error(i, r.Code, text(r.Theorem.Prop()))
		}
		name := "Numbers"
		if slices.Contains([]int{2, 3, 4, 5, 6, 7, 9}, i) {
			name = "More"
		}
		if r.Theorem.Theory().Name != name {
			t.Error(i, r.Theorem.Theory().Name)
		}
	}
	if r := kernel.Play(nil, nil); len(r) != 0 {
		t.Error(r)
	}
}

func TestPlayCodes(t *testing.T) {
	l := []api.Theory{numbers(), {Name: "1"}}
	a := read("$A:P")
	script := []kernel.Step{
		{Rule: api.Assume, Term: a}, {Rule: 0, Theory: -1, From: []int{9}}, {Rule: 20}, {Rule: -1}, {Rule: math.MinInt}, {Rule: math.MaxInt},
		{Rule: api.Assume, Term: a, Theory: 2}, {Rule: api.Assume, Term: a, Theory: -1, From: []int{0}}, {Rule: api.Assume, Theory: 1}, {Rule: kernel.TransferRule, Theory: 2}, {Rule: kernel.TransferRule, Theory: 1}, {Rule: kernel.TransferRule, Theory: 1, From: []int{0}},
		{Rule: api.Assume, Term: a, From: []int{0}}, {Rule: api.ImpElim, From: []int{0}}, {Rule: api.ImpElim, From: []int{99, 0, 0}}, {Rule: api.Symmetric}, {Rule: api.Symmetric, From: []int{16}}, {Rule: api.Symmetric, From: []int{-1}}, {Rule: api.ImpElim, From: []int{0, math.MaxInt}}, {Rule: api.ImpElim, From: []int{99, -1}},
		{Rule: api.Symmetric, From: []int{1}}, {Rule: api.ImpElim, From: []int{0, 6}}, {Rule: api.ImpElim, From: []int{0, 0}}, {Rule: api.ByAxiom}, {Rule: kernel.TransferRule, Theory: 1, From: []int{1}},
		{Rule: api.Reflexive, Theory: 1}, {Rule: api.Beta, Theory: 2}, {Rule: api.Eta, Theory: -7}, {Rule: api.ByOracle, Theory: 5}, {Rule: api.ByAxiom, Theory: 5}, {Rule: api.Reflexive, Theory: 5},
	}
	wanted := []api.Errno{
		api.OK, api.ErrArgument, api.ErrArgument, api.ErrArgument, api.ErrArgument, api.ErrArgument,
		api.ErrRange, api.ErrRange, api.ErrForm, api.ErrRange, api.ErrCount, api.ErrForm,
		api.ErrCount, api.ErrCount, api.ErrCount, api.ErrCount, api.ErrRange, api.ErrRange, api.ErrRange, api.ErrRange,
		kernel.ErrNone, kernel.ErrNone, api.ErrFail, api.ErrMissing, kernel.ErrNone,
		api.ErrForm, api.ErrRange, api.ErrRange, api.ErrRange, api.ErrRange, api.ErrRange,
	}
	for i, r := range kernel.Play(l, script) {
		if r.Code != wanted[i] || r.Theorem.Is() != (r.Code == api.OK) {
			t.Error(i, r.Code, wanted[i])
		}
	}
	long := slices.Repeat([]kernel.Step{{Rule: api.Assume, Term: a}}, 301)
	for i, r := range kernel.Play(l, long) {
		if r.Code != api.ErrCount || r.Theorem.Is() {
			t.Fatal(i, r.Code)
		}
	}
	if r := kernel.Play(l, long); len(r) != 301 {
		t.Error(len(r))
	}
	r := kernel.Play(l, long[:300])
	if len(r) != 300 || r[299].Code != api.OK {
		t.Error(len(r))
	}
	if !strings.HasPrefix(text(r[0].Theorem.Prop()), "$A") {
		t.Error(text(r[0].Theorem.Prop()))
	}
}
