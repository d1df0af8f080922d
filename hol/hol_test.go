package hol_test

import (
	"slices"
	"strings"
	"testing"

	"triforium/api"
	"triforium/checker"
	"triforium/hol"
	"triforium/kernel"
	"triforium/model"
	"triforium/term"
	"triforium/theory"
	"triforium/types"
)

func must[T any](x T, e api.Errno) T {
	if e != api.OK {
		panic(e)
	}
	return x
}

func free(name string, t api.Type) api.Term { return api.Term{Op: api.Free, Name: name, Type: t} }
func schem(name string, t api.Type) api.Term {
	return api.Term{Op: api.Var, Name: name, Type: t}
}
func typeVar(name string) api.Type { return api.Type{Op: api.TVar, Name: name} }
func fun(a, b api.Type) api.Type   { return types.Fun(a, b) }
func app(f api.Term, l ...api.Term) api.Term {
	return term.Apps(f, l)
}

// rule returns premises and a conclusion; terms of the type bool get Trueprop.
func rule(l ...api.Term) api.Term {
	for i, t := range l {
		if types.Equal(must(term.TypeOf(t)), hol.BoolType()) {
			l[i] = hol.Truth(t)
		}
	}
	r := l[len(l)-1]
	for _, a := range slices.Backward(l[:len(l)-1]) {
		r = term.Imp(a, r)
	}
	return r
}

func eq(a, b api.Term) api.Term { return must(hol.Equal(a, b)) }

func TestTheories(t *testing.T) {
	h, n := hol.HOL(), hol.Nat()
	if theory.Check(h) != api.OK || theory.Check(n) != api.OK || h.Name != "HOL" || n.Name != "Nat" {
		t.Error("not right")
	}
	if !theory.Within(theory.Pure(), h) || !theory.Within(h, n) || len(h.Axioms) != 26 || len(n.Axioms) != 39 {
		t.Error("not within", len(h.Axioms), len(n.Axioms))
	}
	var l []string
	for _, x := range [][]api.ConstDecl{h.Consts[4:], n.Consts[16:]} {
		for _, c := range x {
			l = append(l, c.Name+":"+must(types.Text(c.Type)))
		}
	}
	b := "fun(bool, bool)"
	bb, p := "fun(bool, "+b+")", "fun(?a.0, bool)"
	want := []string{
		"Trueprop:fun(bool, prop)", "True:bool", "False:bool", "Not:" + b, "And:" + bb, "Or:" + bb, "Implies:" + bb, "Equal:fun(?a.0, " + p + ")", "All:fun(" + p + ", bool)", "Ex:fun(" + p + ", bool)",
		"The:fun(" + p + ", ?a.0)", "If:fun(bool, fun(?a.0, fun(?a.0, ?a.0)))",
		"Zero:nat", "Suc:fun(nat, nat)", "plus:fun(nat, fun(nat, nat))", "times:fun(nat, fun(nat, nat))", "le:fun(nat, fun(nat, bool))", "less:fun(nat, fun(nat, bool))",
	}
	if !slices.Equal(l, want) || len(h.Types) != 3 || len(n.Types) != 4 || h.Types[2].Name != "bool" || n.Types[3].Name != "nat" {
		t.Error(l)
	}
	h.Axioms[3].Prop.Kids[0].Kids = nil
	if theory.Check(hol.HOL()) != api.OK {
		t.Error("shared memory")
	}
}

// names are the names of axioms and derived rules in the order of the chapter.
const names = `protect_def trueI falseE notI notE conjI conjunct1 conjunct2 disjI1 disjI2 disjE impI mp allI spec exI exE refl subst ext iffI excluded_middle the_eq if_true if_false eq_reflection
Suc_inject Suc_Zero nat_induct plus_Zero plus_Suc times_Zero times_Suc le_Zero le_Suc_Zero le_Suc less_Zero less_Zero_Suc less_Suc
conjE impE allE iffD1 iffD2 classical ccontr sym trans meta_eq arg_cong fun_cong cong the_equality eq_True eq_False not_not not_conj not_disj not_imp imp_disj not_all not_ex and_True and_True2 and_False and_False2 or_True or_True2 or_False or_False2 imp_True imp_True2 imp_False imp_False2 not_True not_False eq_refl all_simp ex_simp if_True if_False conj_cong imp_cong if_cong if_split
plus_Zero2 plus_Suc2 plus_commute plus_assoc plus_left_commute plus_cancel Suc_eq Suc_not_Zero Zero_not_Suc le_refl le_trans le_antisym le_total le_plus plus_le_mono plus_le_cancel less_le not_le not_less le_diff nat_cases`

// P19.2: each rule is a theorem that the checker takes.
func TestRules(t *testing.T) {
	groups := strings.Split(names, "\n")
	var all []hol.Named
	for i, l := range [][]hol.Named{axioms(hol.HOL(), 0), axioms(hol.Nat(), 26), hol.Rules(), hol.NatRules()} {
		want := strings.Fields(groups[i])
		for k, x := range l {
			if k >= len(want) || want[k] != x.Name {
				t.Fatal("the order", i, k, x.Name)
			}
		}
		if len(l) != len(want) {
			t.Error(i, len(l))
		}
		for _, x := range l {
			th, e := hol.Rule(x.Name)
			if e != api.OK || !term.Equal(th.Prop(), x.Prop) || len(th.Hyps())+len(th.Oracles()) > 0 {
				t.Error(x.Name, e)
				continue
			}
			if name := th.Theory().Name; name != []string{"HOL", "Nat", "HOL", "Nat"}[i] {
				t.Error(x.Name, name)
			}
			s, e := checker.Check(th.Theory(), th.Proof())
			if e != api.OK || !checker.Same(s, checker.Sequent{Prop: x.Prop}) {
				t.Error("the checker", x.Name, e)
			}
		}
		all = append(all, l...)
	}
	if hol.Rules()[18].Name != "not_disj" {
		t.Error("the nineteenth rule")
	}
	for _, name := range []string{"", "conjE ", "protect", "both", "not_exE", "HOL"} {
		if th, e := hol.Rule(name); e != api.ErrMissing || th.Is() {
			t.Error(name, e)
		}
	}
}

// axioms returns the axioms of a theory from an index on.
func axioms(thy api.Theory, from int) []hol.Named {
	var l []hol.Named
	for _, a := range thy.Axioms[from:] {
		l = append(l, hol.Named{Name: a.Name, Prop: a.Prop})
	}
	return l
}

// Propositions that are built by hand.
func TestPropositions(t *testing.T) {
	b, a, c, n := hol.BoolType(), typeVar("a"), typeVar("b"), hol.NatType()
	p, q, r, p2, q2 := schem("P", b), schem("Q", b), schem("R", b), schem("P'", b), schem("Q'", b)
	set, x, y, z, f, g := schem("P", fun(a, b)), schem("x", a), schem("y", a), schem("z", a), schem("f", fun(a, c)), schem("g", fun(a, c))
	k, m, v := schem("k", n), schem("m", n), schem("n", n)
	fx, fm := free("x", a), free("m", n)
	con := func(name string, l ...api.Term) api.Term {
		typ, _ := theory.Const(hol.Nat(), name)
		return app(api.Term{Op: api.Const, Name: name, Type: typ}, l...)
	}
	all := func(x, t api.Term) api.Term { return term.All(x, t) }
	overAll := app(api.Term{Op: api.Const, Name: "All", Type: fun(fun(a, b), b)}, set)
	for name, want := range map[string]api.Term{
		"conjE": rule(hol.And(p, q), rule(p, q, r), r), "allE": rule(overAll, rule(app(set, x), r), r), "iffD2": rule(eq(p, q), q, p), "ccontr": rule(rule(hol.Not(p), hol.False()), p),
		"trans": rule(eq(x, y), eq(y, z), eq(x, z)), "meta_eq": rule(must(term.Eq(x, y)), eq(x, y)), "cong": rule(eq(f, g), eq(x, y), eq(app(f, x), app(g, y))),
		"not_all": rule(eq(hol.Not(overAll), must(hol.Ex(fx, hol.Not(app(set, fx)))))), "all_simp": rule(eq(must(hol.All(fx, p)), p)),
		"the_equality": rule(app(set, schem("a", a)), all(fx, rule(app(set, fx), eq(fx, schem("a", a)))), eq(app(api.Term{Op: api.Const, Name: "The", Type: fun(fun(a, b), a)}, set), schem("a", a))),
		"conj_cong":    rule(eq(p, p2), rule(p2, eq(q, q2)), eq(hol.And(p, q), hol.And(p2, q2))),
		"if_cong":      rule(eq(p, q), rule(q, eq(x, schem("u", a))), rule(hol.Not(q), eq(y, schem("v", a))), eq(must(hol.If(p, x, y)), must(hol.If(q, schem("u", a), schem("v", a))))),
		"if_split":     rule(eq(app(set, must(hol.If(q, x, y))), hol.And(hol.Implies(q, app(set, x)), hol.Implies(hol.Not(q), app(set, y))))),
		"ext":          rule(all(fx, rule(eq(app(f, fx), app(g, fx)))), eq(f, g)),
		"le_diff":      rule(con("le", m, v), must(hol.Ex(free("k", n), eq(v, con("plus", m, free("k", n)))))),
		"nat_cases":    rule(rule(eq(v, con("Zero")), p), all(fm, rule(eq(v, con("Suc", fm)), p)), p),
		"plus_le_mono": rule(con("le", k, m), con("le", schem("i", n), v), con("le", con("plus", k, schem("i", n)), con("plus", m, v))),
		"nat_induct":   rule(app(schem("P", fun(n, b)), con("Zero")), all(free("n", n), rule(app(schem("P", fun(n, b)), free("n", n)), app(schem("P", fun(n, b)), con("Suc", free("n", n))))), app(schem("P", fun(n, b)), v)),
	} {
		if th := must(hol.Rule(name)); !term.Equal(th.Prop(), want) {
			t.Error(name, must(term.Text(th.Prop())), must(term.Text(want)))
		}
	}
}

// P19.3: axioms and derived rules of HOL hold in its models.
func TestTrue(t *testing.T) {
	for _, ground := range [][]api.Type{{hol.BoolType()}, nil} {
		m := model.Model{Ground: ground}
		if ok, name, e := model.True(hol.HOL(), m); !ok || e != api.OK {
			t.Error(name, e)
		}
		for _, x := range hol.Rules() {
			if ok, a, e := model.Holds(hol.HOL(), m, nil, x.Prop); !ok || e != api.OK {
				t.Error(x.Name, ok, a, e)
			}
		}
	}
	thy := must(theory.Extend(hol.HOL(), "T", api.Theory{Types: []api.TypeDecl{{Name: "t"}}}))
	m := model.Model{Carriers: []model.Carrier{{Name: "t", Cases: make([][]api.Type, 2)}}, Ground: []api.Type{{Op: api.TCon, Name: "t"}}}
	for _, x := range hol.Rules() {
		if ok, a, e := model.Holds(thy, m, nil, x.Prop); !ok || e != api.OK {
			t.Error(x.Name, ok, a, e)
		}
	}
}

// value returns the value of a term of numbers, true being 1, with numbers for variables.
func value(t api.Term, of map[string]int) int {
	if t.Op == api.Var {
		return of[t.Name]
	}
	head, args := term.Spine(t)
	var x []int
	for _, a := range args {
		x = append(x, value(a, of))
	}
	is := func(b bool) int {
		if b {
			return 1
		}
		return 0
	}
	switch head.Name {
	case "Zero", "False":
		return 0
	case "True":
		return 1
	case "Suc":
		return x[0] + 1
	case "plus":
		return x[0] + x[1]
	case "times":
		return x[0] * x[1]
	case "le":
		return is(x[0] <= x[1])
	case "less":
		return is(x[0] < x[1])
	case "Equal":
		return is(x[0] == x[1])
	case "Not":
		return 1 - x[0]
	case "Or":
		return x[0] | x[1]
	case "Trueprop":
		return x[0]
	case "imp":
		return is(x[0] <= x[1])
	}
	panic(head.Name)
}

// P19.4: the rules of Nat without predicates are true of numbers.
func TestNumbersAreRight(t *testing.T) {
	asked := 0
	for _, x := range append(axioms(hol.Nat(), 26), hol.NatRules()...) {
		if slices.Contains([]string{"nat_induct", "nat_cases", "le_diff"}, x.Name) {
			continue
		}
		asked++
		for i := range 625 {
			of := map[string]int{"k": i % 5, "m": i / 5 % 5, "n": i / 25 % 5, "i": i / 125, "P": i % 2}
			if value(x.Prop, of) != 1 {
				t.Error(x.Name, of)
				break
			}
		}
	}
	if asked != 31 {
		t.Error(asked)
	}
}

// P19.5: terms and their types; numbers.
func TestTerms(t *testing.T) {
	b, n := hol.BoolType(), hol.NatType()
	p, q, x := free("p", b), free("q", b), free("x", n)
	for i, y := range []api.Term{
		hol.True(), hol.False(), hol.Not(p), hol.And(p, q), hol.Or(p, q), hol.Implies(p, q), eq(p, q), eq(x, x), must(hol.All(x, p)), must(hol.Ex(x, eq(x, x))), must(hol.If(p, q, p)), must(hol.The(p, q)),
	} {
		if typ, e := term.Check(hol.Nat(), y); e != api.OK || !types.Equal(typ, b) {
			t.Error(i, e)
		}
		if z, ok := hol.Untruth(hol.Truth(y)); !ok || !term.Equal(z, y) {
			t.Error(i, "Untruth")
		}
		if _, ok := hol.Untruth(y); ok {
			t.Error(i, "no Truth")
		}
	}
	if typ, e := term.Check(hol.Nat(), must(hol.The(x, eq(x, x)))); e != api.OK || !types.Equal(typ, n) {
		t.Error("The", e)
	}
	if typ, e := term.Check(hol.Nat(), must(hol.If(p, x, x))); e != api.OK || !types.Equal(typ, n) {
		t.Error("If", e)
	}
	if all := must(hol.All(x, eq(x, x))); all.Kids[1].Name != "x" || !term.Equal(all.Kids[1].Kids[0], eqOf(n, api.Term{Op: api.Bound}, api.Term{Op: api.Bound})) {
		t.Error("All")
	}
	other := hol.Truth(p)
	other.Kids[0].Type = fun(n, types.Prop())
	if _, ok := hol.Untruth(other); ok {
		t.Error("Trueprop of another type")
	}
	for i := range 91 {
		y, e := hol.Numeral(i)
		if k, ok := hol.Number(y); e != api.OK || !ok || k != i {
			t.Error(i, e, k, ok)
		}
	}
	big := must(hol.Numeral(90))
	for range 110 {
		big = app(must(hol.Numeral(1)).Kids[0], big)
	}
	if k, ok := hol.Number(big); k != 200 || !ok {
		t.Error(k, ok)
	}
	for i, y := range []api.Term{{}, x, app(must(hol.Numeral(1)).Kids[0], x), must(hol.Numeral(1)).Kids[0], {Op: api.Const, Name: "Zero", Type: b}, {Op: api.App, Kids: []api.Term{must(hol.Numeral(1)).Kids[0]}}} {
		if k, ok := hol.Number(y); ok || k != 0 {
			t.Error(i, k)
		}
	}
}

// eqOf returns Equal at a type, of any terms.
func eqOf(typ api.Type, a, b api.Term) api.Term {
	return app(api.Term{Op: api.Const, Name: "Equal", Type: fun(typ, fun(typ, hol.BoolType()))}, a, b)
}

func TestWrongTerms(t *testing.T) {
	b, n := hol.BoolType(), hol.NatType()
	p, x := free("p", b), free("x", n)
	code := func(_ api.Term, e api.Errno) api.Errno { return e }
	for i, e := range []api.Errno{
		code(hol.Equal(p, x)), code(hol.Equal(api.Term{}, p)), code(hol.Equal(p, app(p, p))), code(hol.All(schem("x", n), p)), code(hol.All(x, x)), code(hol.Ex(p, api.Term{})), code(hol.The(hol.True(), p)), code(hol.The(x, x)),
		code(hol.If(x, p, p)), code(hol.If(p, x, p)), code(hol.If(p, api.Term{}, api.Term{})), code(hol.If(api.Term{}, p, p)),
	} {
		if e != hol.ErrTerm {
			t.Error(i, e)
		}
	}
	for _, n := range []int{-1, 91, -1 << 63, 1<<63 - 1} {
		if y, e := hol.Numeral(n); e != api.ErrRange || y.Op != 0 {
			t.Error(n, e)
		}
	}
	// any terms are joined
	junk := api.Term{Op: 9, Kids: []api.Term{{}}}
	if y := hol.And(junk, api.Term{}); !term.Equal(y.Kids[1], api.Term{}) || !term.Equal(y.Kids[0].Kids[1], junk) {
		t.Error("junk")
	}
	if y, ok := hol.Untruth(hol.Truth(junk)); !ok || !term.Equal(y, junk) {
		t.Error("Truth of junk")
	}
}

// The library of a greater theory has the rules there; without HOL it has none.
func TestLibrary(t *testing.T) {
	l := hol.Load(must(kernel.Open(hol.Nat())))
	th, e := l.Rule("conj_cong")
	if e != api.OK || th.Theory().Name != "Nat" {
		t.Error(e)
	}
	if th, e := l.Rule("protect_def"); e != api.OK || th.Theory().Name != "Nat" {
		t.Error("Pure's axiom", e)
	}
	l = hol.Load(must(kernel.Open(theory.Pure())))
	if _, e := l.Rule("conj_cong"); e == api.OK {
		t.Error("a rule without axioms")
	}
	if _, e := l.Rule("both"); e != api.ErrMissing {
		t.Error("a hidden rule", e)
	}
}

func TestConnectives(t *testing.T) {
	b := hol.BoolType()
	p, q, x := free("p", b), free("q", b), free("x", hol.NatType())
	l := hol.Atoms(hol.And(eq(x, x), hol.Implies(q, eq(p, hol.Not(eq(x, x))))), 5)
	if len(l) != 3 || !term.Equal(l[0], eq(x, x)) || !term.Equal(l[1], q) || !term.Equal(l[2], p) {
		t.Error(len(l))
	}
	if name, args, ok := hol.Connective(app(hol.And(p, q).Kids[0])); ok {
		t.Error(name, len(args))
	}
}
