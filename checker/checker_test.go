package checker_test

import (
	"fmt"
	"math"
	"slices"
	"strings"
	"testing"

	"triforium/api"
	"triforium/checker"
	"triforium/kernel"
	"triforium/term"
	"triforium/theory"
	"triforium/types"
)

func must[T any](x T, e api.Errno) T {
	if e != api.OK {
		panic(fmt.Sprint("error ", int(e)))
	}
	return x
}

// read returns the term with a text, in which P: stands for prop and N: for nat.
func read(s string) api.Term {
	s = strings.NewReplacer(":P", ":prop", ":N", ":nat").Replace(s)
	t, e := term.Read(s)
	if e != api.OK {
		panic(fmt.Sprint(s, " ", int(e)))
	}
	return t
}

func typ(s string) api.Type { return must(types.Read(s)) }

func numbers() api.Theory {
	return must(theory.Extend(theory.Pure(), "Numbers", api.Theory{
		Classes: []api.Class{{Name: "c"}, {Name: "d", Supers: []string{"c"}}, {Name: "e"}, {Name: "f", Supers: []string{"d", "e"}}},
		Types:   []api.TypeDecl{{Name: "nat"}, {Name: "list", Arity: 1}, {Name: "pair", Arity: 2}},
		Arities: []api.Arity{{Type: "nat", Class: "c"}, {Type: "list", Class: "c", Sorts: [][]string{{"c"}}}, {Type: "pair", Class: "c", Sorts: [][]string{{"c"}, {}}}, {Type: "pair", Class: "e", Sorts: [][]string{{"d"}, {"e"}}}},
		Consts:  []api.ConstDecl{{Name: "zero", Type: typ("nat")}, {Name: "suc", Type: typ("fun(nat, nat)")}, {Name: "k", Type: typ("?a.0{c}")}, {Name: "two", Type: typ("pair(?a.0, pair(?b.0{c,e}, ?a.0))")}},
		Axioms:  []api.Axiom{{Name: "ax", Prop: read("?A.0:P")}, {Name: "never", Prop: read("(all:fun(fun(prop, prop), prop) (\\x:P . #0))")}},
		Oracles: []string{"trust", "guess"},
	}))
}

const (
	imp = "imp:fun(prop, fun(prop, prop))"
	all = "all:fun(fun(nat, prop), prop)"
	eqn = "eq:fun(nat, fun(nat, prop))"
	eqp = "eq:fun(prop, fun(prop, prop))"
)

func node(op int, kids ...api.Proof) api.Proof { return api.Proof{Op: op, Kids: kids} }

func with(op int, t api.Term, kids ...api.Proof) api.Proof {
	return api.Proof{Op: op, Term: t, Kids: kids}
}

func assume(s string) api.Proof { return with(api.Assume, read(s)) }
func refl(s string) api.Proof   { return with(api.Reflexive, read(s)) }

// trust returns a proof of a proposition by an oracle.
func trust(s string) api.Proof {
	return api.Proof{Op: api.ByOracle, Name: "trust", Term: read(s)}
}

func TestCheck(t *testing.T) {
	thy := numbers()
	s, e := checker.Check(thy, with(api.ImpIntro, read("$A:P"), assume("$A:P")))
	if e != api.OK || len(s.Hyps) != 0 || len(s.Oracles) != 0 || !term.Equal(s.Prop, read("(("+imp+" $A:P) $A:P)")) {
		t.Error(e, s)
	}
	s, e = checker.Check(thy, node(api.ImpElim, trust("(("+imp+" $B:P) $A:P)"), assume("$B:P")))
	if e != api.OK || len(s.Hyps) != 1 || !term.Equal(s.Hyps[0], read("$B:P")) || !slices.Equal(s.Oracles, []string{"trust"}) || !term.Equal(s.Prop, read("$A:P")) {
		t.Error(e, s)
	}
}

func TestCheckErrors(t *testing.T) {
	good := assume("$A:P")
	bad := numbers()
	bad.Name = ""
	huge := refl("$A:P")
	for range 70 {
		huge = node(api.Transitive, huge, huge)
	}
	most := sized(api.MaxProof)
	long := refl("$A:P")
	for range 29999 {
		long = node(api.Symmetric, long)
	}
	for i, c := range []struct {
		thy api.Theory
		p   api.Proof
		e   api.Errno
	}{
		{numbers(), good, api.OK}, {numbers(), api.Proof{}, checker.ErrProof}, {bad, good, api.ErrTheory}, {bad, api.Proof{}, api.ErrTheory}, {api.Theory{}, good, api.ErrTheory},
		{bad, huge, api.ErrLarge}, {numbers(), huge, api.ErrLarge}, {numbers(), node(99, most), api.ErrLarge}, {numbers(), long, api.OK}, {numbers(), node(api.Symmetric, long), api.ErrLarge}, {bad, node(99, long), api.ErrLarge},
	} {
		s, e := checker.Check(c.thy, c.p)
		if e != c.e || e != api.OK && !checker.Same(s, checker.Sequent{}) {
			t.Error(i, e, c.e)
		}
	}
	if s, e := checker.Check(numbers(), most); e != api.OK || !term.Equal(s.Prop, read("(("+eqp+" $A:P) $A:P)")) {
		t.Error(e)
	}
}

// sized returns a proof with a number of nodes.
func sized(nodes int) api.Proof {
	switch {
	case nodes == 1:
		return refl("$A:P")
	case nodes%2 == 0:
		return node(api.Symmetric, sized(nodes-1))
	}
	p := sized((nodes - 1) / 2)
	return node(api.Transitive, p, p)
}

// same looks whether the kernel makes a theorem by the rules that a proof names, and the checker takes it, or neither.
func same(t *testing.T, name any, p api.Proof, taken bool) {
	t.Helper()
	var script []kernel.Step
	var add func(p *api.Proof) int
	add = func(p *api.Proof) int {
		s := kernel.Step{Rule: p.Op, Name: p.Name, Term: p.Term, Inst: p.Inst, TypeNames: p.TypeNames, TermNames: p.TermNames, Num: p.Num}
		for i := range p.Kids {
			s.From = append(s.From, add(&p.Kids[i]))
		}
		script = append(script, s)
		return len(script) - 1
	}
	add(&p)
	l := kernel.Play([]api.Theory{numbers()}, script)
	x := l[len(l)-1]
	s, e := checker.Check(numbers(), p)
	if (e == api.OK) != taken || e != api.OK && e != checker.ErrProof {
		t.Error(name, "the checker", e)
	}
	if p.Op != kernel.TransferRule && (x.Code == api.OK) != taken {
		t.Error(name, "the kernel", x.Code)
	}
	if taken && !checker.Same(s, checker.Sequent{Hyps: x.Theorem.Hyps(), Prop: x.Theorem.Prop(), Oracles: x.Theorem.Oracles()}) {
		t.Error(name, s)
	}
}

// A proof proves nothing without its Kids; fields that a kind does not take play no part.
func TestKinds(t *testing.T) {
	xy := trust("((" + eqn + " $x:N) $y:N)")
	ab, ba := trust("(("+imp+" $A:P) $B:P)"), trust("(("+imp+" $B:P) $A:P)")
	l := []api.Proof{
		{Op: api.ByAxiom, Name: "ax"}, {Op: api.ByOracle, Name: "guess", Term: read("$A:P")}, assume("$A:P"), with(api.ImpIntro, read("$A:P"), assume("$A:P")), node(api.ImpElim, ab, trust("$A:P")), with(api.AllIntro, read("$x:N"), xy),
		with(api.AllElim, read("zero:N"), trust("("+all+" (\\x:N . $A:P))")), refl("$x:N"), node(api.Symmetric, xy), node(api.Transitive, xy, refl("$y:N")), node(api.Combination, refl("suc:fun(nat, nat)"), xy), with(api.Abstraction, read("$x:N"), xy),
		with(api.Beta, read("((\\x:N . #0) zero:N)")), with(api.Eta, read("(\\x:N . (suc:fun(nat, nat) #0))")), node(api.EqIntro, ab, ba), node(api.EqElim, node(api.EqIntro, ab, ba), trust("$A:P")),
		{Op: api.Instantiate, Inst: api.Inst{Terms: []api.TermBind{{Name: "A", To: read("$B:P")}}}, Kids: []api.Proof{{Op: api.ByAxiom, Name: "ax"}}}, {Op: api.Generalize, TermNames: []string{"x"}, Num: 2, Kids: []api.Proof{xy}},
	}
	for i, p := range l {
		if p.Op != i+1 {
			t.Fatal(i)
		}
		same(t, p.Op, p, true)
		more := p
		more.Kids = append(slices.Clone(p.Kids), assume("$A:P"))
		same(t, p.Op, more, false)
		if len(p.Kids) > 0 {
			more.Kids = p.Kids[1:]
			same(t, p.Op, more, false)
		}
		full := p
		if p.Op != api.ByAxiom && p.Op != api.ByOracle {
			full.Name = "?"
		}
		if !slices.Contains([]int{2, 3, 4, 6, 7, 8, 12, 13, 14}, p.Op) {
			full.Term = api.Term{Op: 77}
		}
		if p.Op != api.Instantiate {
			full.Inst = api.Inst{Types: make([]api.TypeBind, 200)}
		}
		if p.Op != api.Generalize {
			full.Num, full.TypeNames, full.TermNames = -1, make([]string, 200), make([]string, 200)
		}
		same(t, p.Op, full, true)
	}
	for _, op := range []int{0, -1, 19, 20, math.MaxInt, math.MinInt} {
		same(t, op, node(op), false)
		same(t, op, node(op, assume("$A:P")), false)
		same(t, op, node(op, assume("$A:P"), assume("$A:P")), false)
	}
}

func TestWhatProvesNothing(t *testing.T) {
	xy, px := trust("(("+eqn+" $x:N) $y:N)"), assume("($p:fun(nat, prop) $x:N)")
	ab := trust("((" + imp + " $A:P) $B:P)")
	every := trust("(" + all + " (\\x:N . $A:P))")
	for i, p := range []api.Proof{
		{Op: api.ByAxiom, Name: "none"}, {Op: api.ByOracle, Name: "none", Term: read("$A:P")}, trust("$x:N"), assume("$x:N"), with(api.ImpIntro, read("$x:N"), px), with(api.ImpIntro, read("$x:P"), px), node(api.ImpElim, ab, trust("$B:P")), node(api.ImpElim, px, px),
		with(api.AllIntro, read("$x:N"), px), with(api.AllIntro, read("?x.0:N"), xy), with(api.AllIntro, read("zero:N"), xy), with(api.AllElim, read("$A:P"), every), with(api.AllElim, read("zero:N"), px), with(api.AllElim, read("zero:N"), trust("("+all+" $p:fun(nat, prop))")), with(api.AllElim, read("$A:N"), every),
		node(api.Symmetric, px), node(api.Transitive, xy, xy), node(api.Combination, xy, xy), node(api.Combination, refl("$g:fun(prop, nat)"), xy), node(api.Combination, refl("$g:'a"), xy), with(api.Abstraction, read("$x:N"), assume("(("+eqn+" $x:N) $x:N)")), with(api.Abstraction, read("k:nat"), xy), with(api.Abstraction, read("$z:N"), px),
		with(api.Beta, read("zero:N")), with(api.Beta, read("(suc:fun(nat, nat) zero:N)")), with(api.Eta, read("(\\x:N . #0)")), with(api.Eta, read("(\\x:N . (($g:fun(nat, fun(nat, nat)) #0) #0))")), with(api.Eta, read("(\\x:N . ((\\y:N . #1) #0))")), with(api.Eta, read("suc:fun(nat, nat)")), with(api.Eta, read("(\\x:N . (\\y:N . (($g:fun(nat, fun(nat, nat)) #1) #0)))")),
		node(api.EqIntro, ab, ab), node(api.EqElim, ab, trust("$A:P")), node(api.EqElim, trust("(("+eqp+" $A:P) $B:P)"), trust("$B:P")),
		node(api.ImpElim, trust("(("+imp+" ($q:fun('a, prop) $x:'a)) $A:P)"), assume("($q:fun('a{c}, prop) $x:'a{c})")), node(api.EqIntro, trust("(("+imp+" $A:P) ($q:fun(?a.0, prop) $x:?a.0))"), trust("(("+imp+" ($q:fun(?a.0{c}, prop) $x:?a.0{c})) $A:P)")),
		with(api.AllIntro, read("$z:'a"), trust("($q:fun('a{c}, prop) $x:'a{c})")),
	} {
		same(t, i, p, false)
	}
}

// Terms and types are right as those of a theory.
func TestTermsThatAreWrong(t *testing.T) {
	con := func(t api.Type) api.Term { return api.Term{Op: api.Free, Name: "x", Type: t} }
	deep, wide := typ("nat"), api.Type{Op: api.TCon, Name: "nat"}
	for range 500 {
		deep = api.Type{Op: api.TCon, Name: "list", Args: []api.Type{deep}}
	}
	for range 15 {
		wide = api.Type{Op: api.TCon, Name: "pair", Args: []api.Type{wide, wide}}
	}
	tall := read("$x:N")
	for range 500 {
		tall = api.Term{Op: api.App, Kids: []api.Term{read("suc:fun(nat, nat)"), tall}}
	}
	app := func(f, a api.Term) api.Term { return api.Term{Op: api.App, Kids: []api.Term{f, a}} }
	for i, c := range []struct {
		t  api.Term
		ok bool
	}{
		{api.Term{}, false}, {api.Term{Op: 7}, false}, {api.Term{Op: api.Bound}, false}, {api.Term{Op: api.App}, false}, {read("none:N"), false}, {read("zero:prop"), false}, {read("suc:fun(nat, nat)"), true}, {read("(suc:fun(nat, nat) $x:P)"), false}, {read("($x:N $x:N)"), false},
		{api.Term{Op: api.Free, Name: "", Type: typ("nat")}, false}, {api.Term{Op: api.Free, Name: "1", Type: typ("nat")}, false}, {api.Term{Op: api.Free, Name: strings.Repeat("x", 41), Type: typ("nat")}, false}, {api.Term{Op: api.Free, Name: strings.Repeat("x", 40), Type: typ("nat")}, true}, {api.Term{Op: api.Free, Name: "x'.1_", Num: 1, Type: typ("nat")}, false},
		{api.Term{Op: api.Free, Name: "x", Type: typ("nat"), Kids: []api.Term{{}}}, false}, {api.Term{Op: api.Var, Name: "x", Num: 1000000, Type: typ("nat")}, true}, {api.Term{Op: api.Var, Name: "x", Num: 1000001, Type: typ("nat")}, false}, {api.Term{Op: api.Var, Name: "x", Num: -1, Type: typ("nat")}, false}, {api.Term{Op: api.Var, Type: typ("nat")}, false},
		{api.Term{Op: api.Abs, Type: typ("nat"), Kids: []api.Term{{Op: api.Bound}}}, true}, {api.Term{Op: api.Abs, Name: "1", Type: typ("nat"), Kids: []api.Term{{Op: api.Bound}}}, false}, {api.Term{Op: api.Abs, Num: 1, Type: typ("nat"), Kids: []api.Term{{Op: api.Bound}}}, false}, {api.Term{Op: api.Abs, Type: typ("nat"), Kids: []api.Term{{Op: api.Bound, Num: 1}}}, false}, {api.Term{Op: api.Abs, Type: typ("nat"), Kids: []api.Term{{Op: api.Bound, Num: -1}}}, false},
		{api.Term{Op: api.Abs, Type: typ("nat"), Kids: []api.Term{{Op: api.Bound, Name: "x"}}}, false}, {api.Term{Op: api.Abs, Type: typ("nat"), Kids: []api.Term{{Op: api.Bound, Type: typ("nat")}}}, false}, {api.Term{Op: api.Abs, Kids: []api.Term{read("$x:N")}}, false}, {api.Term{Op: api.Abs, Type: typ("nat")}, false}, {api.Term{Op: api.App, Name: "x", Kids: []api.Term{read("suc:fun(nat, nat)"), read("$x:N")}}, false},
		{api.Term{Op: api.App, Kids: []api.Term{read("suc:fun(nat, nat)"), read("$x:N"), read("$x:N")}}, false}, {api.Term{Op: api.App, Type: typ("nat"), Kids: []api.Term{read("suc:fun(nat, nat)"), read("$x:N")}}, false},
		{con(api.Type{}), false}, {con(api.Type{Op: 4, Name: "nat"}), false}, {con(typ("none")), false}, {con(typ("list")), false}, {con(typ("nat(nat)")), false}, {con(api.Type{Op: api.TCon, Name: "nat", Index: 1}), false}, {con(api.Type{Op: api.TCon, Name: "nat", Sort: []string{"c"}}), false}, {con(typ("fun(nat)")), false}, {con(typ("fun(nat, none)")), false},
		{con(typ("'a{c}")), true}, {con(typ("'a{none}")), false}, {con(typ("'a{c,d}")), false}, {con(typ("'a{c,e}")), true}, {con(typ("'a{e,f}")), false}, {con(typ("'a{c,f}")), false}, {con(api.Type{Op: api.TFree, Name: "a", Sort: []string{"e", "c"}}), false}, {con(api.Type{Op: api.TFree, Name: "a", Sort: []string{"c", "c"}}), false}, {con(api.Type{Op: api.TFree, Name: "a", Index: 1}), false}, {con(api.Type{Op: api.TFree, Name: "a", Args: []api.Type{{}}}), false}, {con(api.Type{Op: api.TFree}), false}, {con(api.Type{Op: api.TFree, Name: "a", Sort: make([]string, 21)}), false},
		{con(typ("?a.1000000")), true}, {con(api.Type{Op: api.TVar, Name: "a", Index: 1000001}), false}, {con(api.Type{Op: api.TVar, Name: "a", Index: -1}), false}, {con(api.Type{Op: api.TVar, Name: "a", Args: []api.Type{{}}}), false}, {con(typ("fun('a, 'a{c})")), false}, {con(typ("fun(?a.0, ?a.0{c})")), false}, {con(typ("fun(?a.0, ?a.1{c})")), true}, {con(typ("fun('a, ?a.0{c})")), true},
		{con(deep), false}, {con(wide), false}, {con(wide.Args[0]), false}, {tall, false},
		{read("(($f:fun('a, fun('b, nat)) $x:'a) $y:'b)"), true}, {read("(($f:fun('a, fun('a{c}, nat)) $x:'a) $y:'a{c})"), false}, {read("(($f:fun(nat, fun(prop, nat)) $x:N) $x:P)"), false}, {read("(($f:fun(nat, fun(prop, nat)) ?x.0:N) ?x.0:P)"), false}, {read("(($f:fun(nat, fun(prop, nat)) ?x.0:N) ?x.1:P)"), true}, {read("(($f:fun(nat, fun(prop, nat)) $x:N) ?x.0:P)"), true},
		{read("k:nat"), true}, {read("k:prop"), false}, {read("k:list(nat)"), true}, {read("k:list(prop)"), false}, {read("k:list(list(nat))"), true}, {read("k:'a{d}"), true}, {read("k:'a"), false}, {read("k:'a{e}"), false}, {read("k:'a{f}"), true}, {read("k:pair(nat, prop)"), true}, {read("k:pair(prop, nat)"), false}, {read("k:fun(nat, nat)"), false},
		{read("two:pair(nat, pair(?b.0{c,e}, nat))"), true}, {read("two:pair(nat, pair(?b.0{c,e}, prop))"), false}, {read("two:pair(nat, pair(nat, nat))"), false}, {read("two:pair(nat, pair(pair('a{d}, 'b{e}), nat))"), true}, {read("two:pair(nat, pair(pair('a{c}, 'b{e}), nat))"), false}, {read("two:pair(nat, nat)"), false}, {read("two:pair(nat, pair(?b.0{f}, nat))"), true}, {read("two:list(nat)"), false},
		{app(read("(\\x:N . (\\y:P . #1))"), read("zero:N")), true}, {app(read("(\\x:N . (\\y:P . #1))"), read("$A:P")), false},
	} {
		same(t, i, with(api.Reflexive, c.t), c.ok)
		same(t, i, binding(c.t), c.ok)
		if c.t.Op == api.Free && c.t.Name == "x" && c.t.Num == 0 && len(c.t.Kids) == 0 {
			same(t, i, bindingType(c.t.Type), c.ok)
		}
	}
	// right, but x == x would be too large
	for i, c := range []struct {
		t  api.Term
		ok bool
	}{{con(deep.Args[0]), false}, {con(deep.Args[0].Args[0]), false}, {con(deep.Args[0].Args[0].Args[0]), true}, {con(wide.Args[0].Args[0]), false}, {con(wide.Args[0].Args[0].Args[0]), true}, {tall.Kids[1], false}, {tall.Kids[1].Kids[1], false}, {tall.Kids[1].Kids[1].Kids[1], true}} {
		same(t, i, with(api.Reflexive, c.t), c.ok)
		same(t, i, binding(c.t), true)
	}
}

// binding returns a proof that binds a variable that is not there to a term, bindingType a type variable to a type.
func binding(t api.Term) api.Proof {
	return api.Proof{Op: api.Instantiate, Inst: api.Inst{Terms: []api.TermBind{{Name: "none", To: t}}}, Kids: []api.Proof{refl("zero:N")}}
}

func bindingType(t api.Type) api.Proof {
	return api.Proof{Op: api.Instantiate, Inst: api.Inst{Types: []api.TypeBind{{Name: "none", To: t}}}, Kids: []api.Proof{refl("zero:N")}}
}

func TestInstancesAndGeneralizations(t *testing.T) {
	p := with(api.Assume, read("(($p:fun(?a.0{c}, fun(nat, prop)) ?x.0:?a.0{c}) $y:N)"))
	inst := func(types []api.TypeBind, terms ...api.TermBind) api.Proof {
		return api.Proof{Op: api.Instantiate, Inst: api.Inst{Types: types, Terms: terms}, Kids: []api.Proof{p}}
	}
	tb := func(name string, index int, s string) api.TypeBind {
		return api.TypeBind{Name: name, Index: index, To: typ(s)}
	}
	xb := func(name string, index int, s string) api.TermBind {
		return api.TermBind{Name: name, Index: index, To: read(s)}
	}
	var many []api.TypeBind
	var terms []api.TermBind
	var names []string
	for i := range 101 {
		many, terms, names = append(many, tb("t", i, "nat")), append(terms, xb("t", i, "zero:N")), append(names, fmt.Sprint("n", i))
	}
	gen := func(n int, typeNames, termNames []string) api.Proof {
		h := node(api.ImpElim, trust("(("+imp+" ($q:fun('h, prop) $h:'h)) (($r:fun('b, fun(?t.5, prop)) $x:'b) ?v.5:?t.5))"), assume("($q:fun('h, prop) $h:'h)"))
		return api.Proof{Op: api.Generalize, Num: n, TypeNames: typeNames, TermNames: termNames, Kids: []api.Proof{h}}
	}
	for i, c := range []struct {
		p  api.Proof
		ok bool
	}{
		{inst(nil), true}, {inst(many[:100], terms[:100]...), true}, {inst(many), false}, {inst(nil, terms...), false}, {inst([]api.TypeBind{tb("b", 0, "nat"), tb("b", 0, "nat")}), false}, {inst(nil, xb("z", 1, "zero:N"), xb("z", 1, "zero:N")), false},
		{inst([]api.TypeBind{tb("a", 0, "nat")}), true}, {inst([]api.TypeBind{tb("a", 0, "prop")}), false}, {inst([]api.TypeBind{tb("a", 1, "prop")}), true}, {inst([]api.TypeBind{tb("a", 0, "list(?a.0{d})")}), true}, {inst([]api.TypeBind{tb("a", 0, "?a.0{d}")}), true}, {inst([]api.TypeBind{tb("a", 0, "?a.0{e}")}), false},
		{inst(nil, xb("x", 0, "zero:N")), false}, {inst([]api.TypeBind{tb("a", 0, "nat")}, xb("x", 0, "zero:N")), true}, {inst(nil, xb("x", 0, "$y:?a.0{c}")), false}, {inst([]api.TypeBind{tb("a", 0, "nat")}, xb("x", 0, "$y:N")), true}, {inst(nil, xb("x", 0, "($f:fun(?a.0, ?a.0{c}) $g:?a.0)")), false}, {inst(nil, xb("", -1, "zero:N")), true},
		{gen(0, nil, nil), true}, {gen(-1, nil, nil), false}, {gen(1000000, []string{"b"}, []string{"x", "r"}), true}, {gen(1000001, nil, nil), false}, {gen(0, names[:100], names[:100]), true}, {gen(0, names, nil), false}, {gen(0, nil, names), false}, {gen(0, []string{"b", "b"}, nil), false}, {gen(0, nil, []string{"z", "z"}), false},
		{gen(0, []string{"h"}, nil), false}, {gen(0, nil, []string{"h"}), false}, {gen(0, nil, []string{"q"}), false}, {gen(5, []string{"t"}, nil), false}, {gen(4, []string{"t"}, nil), true}, {gen(5, nil, []string{"v"}), false}, {gen(6, nil, []string{"v"}), true}, {gen(5, []string{"v", "", "?"}, []string{"t", "", "?"}), true},
	} {
		same(t, i, c.p, c.ok)
	}
}

func TestLimits(t *testing.T) {
	// hypotheses
	p := trust("$A:P")
	for i := range 501 {
		h := fmt.Sprintf("$H%d:P", i)
		p = node(api.ImpElim, with(api.ImpIntro, read(h), p), assume(h))
		if i == 499 {
			if s, e := checker.Check(numbers(), p); e != api.OK || len(s.Hyps) != api.MaxHyps {
				t.Error(e, len(s.Hyps))
			}
		}
	}
	if _, e := checker.Check(numbers(), p); e != checker.ErrProof {
		t.Error(e)
	}
	// terms that would be far too large
	wide := read("$x:N")
	plus := read("$plus:fun(nat, fun(nat, nat))")
	for range 12 {
		wide = term.Apps(plus, []api.Term{wide, wide})
	}
	f := api.Term{Op: api.Abs, Name: "x", Type: typ("nat"), Kids: []api.Term{term.Bind(read("$x:N"), wide.Kids[1])}}
	same(t, "beta", with(api.Beta, api.Term{Op: api.App, Kids: []api.Term{f, wide.Kids[1]}}), false)
	same(t, "beta", with(api.Beta, api.Term{Op: api.App, Kids: []api.Term{f, read("zero:N")}}), true)
	eq := must(term.Eq(wide.Kids[1], read("$z:N")))
	every := api.Proof{Op: api.ByOracle, Name: "trust", Term: term.All(read("$x:N"), eq)}
	same(t, "all", with(api.AllElim, wide.Kids[1], every), false)
	same(t, "all", with(api.AllElim, read("zero:N"), every), true)
	free := api.Proof{Op: api.ByOracle, Name: "trust", Term: must(term.Eq(generalized(wide.Kids[1]), read("$z:N")))}
	bind := func(t api.Term) api.Proof {
		return api.Proof{Op: api.Instantiate, Inst: api.Inst{Terms: []api.TermBind{{Name: "x", To: t}}}, Kids: []api.Proof{free}}
	}
	same(t, "inst", bind(wide.Kids[1]), false)
	same(t, "inst", bind(read("zero:N")), true)
}

// generalized makes schematic variables of the Frees x.
func generalized(t api.Term) api.Term {
	if t.Op == api.Free && t.Name == "x" {
		t.Op = api.Var
	}
	t.Kids = slices.Clone(t.Kids)
	for i := range t.Kids {
		t.Kids[i] = generalized(t.Kids[i])
	}
	return t
}

func TestAxioms(t *testing.T) {
	ax := func(s string, kids ...api.Proof) api.Proof {
		return api.Proof{Op: api.ByAxiom, Name: s, Kids: kids}
	}
	p := node(55, ax("b"), node(0, ax("B", ax("inner")), ax("b")), api.Proof{Op: api.ByOracle, Name: "trust"}, ax(""))
	if l := checker.Axioms(p); !slices.Equal(l, []string{"", "B", "b", "inner"}) {
		t.Error(l)
	}
	if l := checker.Axioms(api.Proof{}); len(l) != 0 {
		t.Error(l)
	}
}

func TestSame(t *testing.T) {
	a, b := read("(\\x:N . #0)"), read("(\\y:N . #0)")
	l := []checker.Sequent{
		{}, {Prop: a}, {Prop: read("(\\x:P . #0)")}, {Hyps: []api.Term{a}}, {Hyps: []api.Term{a}, Prop: a}, {Hyps: []api.Term{a, a}, Prop: a}, {Hyps: []api.Term{read("$x:N"), a}}, {Hyps: []api.Term{a, read("$x:N")}},
		{Oracles: []string{""}}, {Oracles: []string{"a"}}, {Oracles: []string{"a", "b"}}, {Oracles: []string{"b", "a"}}, {Prop: api.Term{Op: -1}}, {Prop: api.Term{Num: 1}}, {Prop: api.Term{Type: typ("nat")}}, {Prop: api.Term{Kids: []api.Term{{}}}}, {Prop: api.Term{Type: typ("'a")}}, {Prop: api.Term{Type: typ("'a{c}")}}, {Prop: api.Term{Type: typ("?a.0")}}, {Prop: api.Term{Type: typ("?a.1")}}, {Prop: read("$x:N")}, {Prop: read("?x.0:N")}, {Prop: read("?x.1:N")}, {Prop: read("x:N")},
	}
	for i, x := range l {
		for k, y := range l {
			if checker.Same(x, y) != (i == k) {
				t.Error(i, k)
			}
		}
	}
	empty := checker.Sequent{Hyps: []api.Term{}, Oracles: []string{}, Prop: api.Term{Kids: []api.Term{}, Type: api.Type{Sort: []string{}}}}
	if !checker.Same(checker.Sequent{}, empty) || !checker.Same(checker.Sequent{Hyps: []api.Term{a}, Prop: b}, checker.Sequent{Hyps: []api.Term{b}, Prop: a}) {
		t.Error("names of abstractions, and empty lists")
	}
}
