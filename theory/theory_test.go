package theory_test

import (
	"fmt"
	"slices"
	"strings"
	"testing"

	"triforium/api"
	"triforium/sort"
	"triforium/term"
	"triforium/theory"
	"triforium/types"
)

func con(name string, args ...api.Type) api.Type {
	return api.Type{Op: api.TCon, Name: name, Args: args}
}

func tvar(name string, sort ...string) api.Type {
	return api.Type{Op: api.TVar, Name: name, Sort: sort}
}

func tfree(name string, sort ...string) api.Type {
	return api.Type{Op: api.TFree, Name: name, Sort: sort}
}

func fun(l ...api.Type) api.Type {
	t := l[len(l)-1]
	for i := len(l) - 2; i >= 0; i-- {
		t = types.Fun(l[i], t)
	}
	return t
}

func nat() api.Type  { return con("nat") }
func prop() api.Type { return types.Prop() }

func constant(name string, t api.Type) api.Term {
	return api.Term{Op: api.Const, Name: name, Type: t}
}
func free(name string, t api.Type) api.Term { return api.Term{Op: api.Free, Name: name, Type: t} }
func schematic(name string, t api.Type) api.Term {
	return api.Term{Op: api.Var, Name: name, Type: t}
}
func bound(n int) api.Term { return api.Term{Op: api.Bound, Num: n} }
func abs(t api.Type, body api.Term) api.Term {
	return api.Term{Op: api.Abs, Name: "x", Type: t, Kids: []api.Term{body}}
}
func app(f api.Term, l ...api.Term) api.Term { return term.Apps(f, l) }

func eq(a, b api.Term) api.Term {
	r, e := term.Eq(a, b)
	if e != api.OK {
		panic(e)
	}
	return r
}

func axiom(name string, kind int, prop api.Term) api.Axiom {
	return api.Axiom{Name: name, Kind: kind, Prop: prop}
}

// numbers is Pure with the class c, nat of it, list, pair, zero, suc, size and top of any type, and least of the class c.
func numbers() api.Theory {
	t := theory.Pure()
	t.Name = "Numbers"
	t.Classes = []api.Class{{Name: "c"}, {Name: "d", Supers: []string{"c"}}}
	t.Types = append(t.Types, api.TypeDecl{Name: "nat"}, api.TypeDecl{Name: "list", Arity: 1}, api.TypeDecl{Name: "pair", Arity: 2})
	t.Arities = []api.Arity{{Type: "nat", Class: "c"}, {Type: "list", Class: "c", Sorts: [][]string{{"c"}}}}
	t.Consts = append(t.Consts,
		api.ConstDecl{Name: "zero", Type: nat()}, api.ConstDecl{Name: "suc", Type: fun(nat(), nat())}, api.ConstDecl{Name: "size", Type: fun(tvar("a"), nat())},
		api.ConstDecl{Name: "top", Type: tvar("a")}, api.ConstDecl{Name: "least", Type: tvar("a", "c")}, api.ConstDecl{Name: "mix", Type: fun(tvar("a"), tvar("b"), nat())},
		api.ConstDecl{Name: "weight", Type: fun(tvar("a"), nat())}, api.ConstDecl{Name: "low", Type: fun(tvar("a", "c"), nat())},
		api.ConstDecl{Name: "good", Type: prop()})
	t.Oracles = []string{"trust"}
	return t
}

func zero() api.Term { return constant("zero", nat()) }
func suc() api.Term  { return constant("suc", fun(nat(), nat())) }
func size(a api.Type) api.Term {
	return constant("size", fun(a, nat()))
}

// same reports whether theories are equal in all, in order.
func same(a, b api.Theory) bool {
	return a.Name == b.Name && theory.Within(a, b) && theory.Within(b, a) && slices.Equal(keys(a), keys(b))
}

// keys lists the names of all that a theory has, in order.
func keys(t api.Theory) []string {
	var l []string
	for _, x := range t.Classes {
		l = append(l, "class "+x.Name)
	}
	for _, x := range t.Types {
		l = append(l, "type "+x.Name)
	}
	for _, x := range t.Arities {
		l = append(l, "arity "+x.Type+" "+x.Class)
	}
	for _, x := range t.Consts {
		l = append(l, "const "+x.Name)
	}
	for _, x := range t.Axioms {
		l = append(l, "axiom "+x.Name)
	}
	for _, x := range t.Oracles {
		l = append(l, "oracle "+x)
	}
	return l
}

func TestPure(t *testing.T) {
	p, a := theory.Pure(), tvar("a")
	x := schematic("A", prop())
	want := api.Theory{
		Name: "Pure", Types: []api.TypeDecl{{Name: "fun", Arity: 2}, {Name: "prop"}},
		Consts: []api.ConstDecl{{Name: "imp", Type: fun(prop(), prop(), prop())}, {Name: "all", Type: fun(fun(a, prop()), prop())}, {Name: "eq", Type: fun(a, a, prop())}, {Name: "protect", Type: fun(prop(), prop())}},
		Axioms: []api.Axiom{axiom("protect_def", api.Plain, eq(term.Protect(x), x))},
	}
	if !same(p, want) || theory.Check(p) != api.OK || len(p.Classes)+len(p.Arities)+len(p.Oracles) != 0 {
		t.Error(p)
	}
	p.Types[0].Name, p.Consts[0].Type.Args[0].Name, p.Axioms[0].Prop.Kids[0].Kids[0].Name = "x", "x", "x"
	if !same(theory.Pure(), want) {
		t.Error("Pure was changed")
	}
}

// fault is a change of a theory and the error that it makes.
type fault struct {
	name   string
	change func(*api.Theory)
	e      api.Errno
}

func addAxioms(l ...api.Axiom) func(*api.Theory) {
	return func(t *api.Theory) { t.Axioms = append(t.Axioms, l...) }
}

func addConst(name string, u api.Type) func(*api.Theory) {
	return func(t *api.Theory) { t.Consts = append(t.Consts, api.ConstDecl{Name: name, Type: u}) }
}

func checkFaults(t *testing.T, l []fault) {
	t.Helper()
	for _, f := range l {
		x := numbers()
		f.change(&x)
		if e := theory.Check(x); e != f.e {
			t.Errorf("%s: %v, want %v", f.name, e, f.e)
		}
	}
}

func TestCheck(t *testing.T) {
	checkFaults(t, []fault{
		{"good", func(*api.Theory) {}, api.OK},
		{"no name", func(t *api.Theory) { t.Name = ""; t.Classes[0].Name = "1" }, api.ErrForm},
		{"long name", func(t *api.Theory) { t.Name = strings.Repeat("a", 41) }, api.ErrForm},
		{"class", func(t *api.Theory) { t.Classes[0].Name = "1"; t.Consts[0].Name = "1" }, sort.ErrName},
		{"arity", func(t *api.Theory) { t.Arities[0].Type = "x"; t.Consts[0].Name = "1" }, api.ErrMissing},
		{"constant", func(t *api.Theory) { addConst("zero", nat())(t); t.Oracles = []string{"1"} }, api.ErrDuplicate},
		{"constant's type", addConst("k", tfree("a")), api.ErrForm},
		{"oracle", func(t *api.Theory) { t.Oracles = []string{"a", "1", "a"} }, api.ErrForm},
		{"oracle twice", func(t *api.Theory) { t.Oracles = []string{"a", "a", "1"} }, api.ErrDuplicate},
		{"301 oracles", func(t *api.Theory) { t.Oracles = make([]string, 301) }, api.ErrCount},
		{"300 oracles", func(t *api.Theory) { t.Oracles = numbered("o", 300) }, api.OK},
		{"oracles ahead of Pure", func(t *api.Theory) { t.Oracles = []string{""}; t.Axioms = nil }, api.ErrForm},
		{"without protect_def", func(t *api.Theory) { t.Axioms = make([]api.Axiom, 301) }, api.ErrTheory},
		{"another protect_def", func(t *api.Theory) { t.Axioms[0].Prop = constant("good", prop()) }, api.ErrTheory},
		{"protect_def of another kind", func(t *api.Theory) { t.Axioms[0].Kind = api.TypeDef }, api.ErrTheory},
		{"without prop", func(t *api.Theory) { *t = api.Theory{Name: "T"} }, api.ErrTheory},
		{"another eq", func(t *api.Theory) { t.Consts[2].Type = fun(tvar("b"), tvar("b"), prop()) }, api.ErrTheory},
		{"another fun", func(t *api.Theory) {
			*t = theory.Pure()
			t.Types[0].Arity, t.Consts, t.Axioms = 3, nil, nil
		}, api.ErrTheory},
		{"301 axioms", func(t *api.Theory) { t.Axioms = append(t.Axioms, make([]api.Axiom, 300)...) }, api.ErrCount},
		{"300 axioms without names", func(t *api.Theory) { t.Axioms = append(t.Axioms, make([]api.Axiom, 299)...) }, api.ErrForm},
		{"300 axioms", func(t *api.Theory) {
			for _, n := range numbered("a", 299) {
				addAxioms(axiom(n, api.Plain, constant("good", prop())))(t)
			}
		}, api.OK},
	})
}

func numbered(prefix string, n int) []string {
	var l []string
	for i := range n {
		l = append(l, fmt.Sprint(prefix, i))
	}
	return l
}

func TestCheckAxioms(t *testing.T) {
	good := constant("good", prop())
	one := func(name string, kind int, p api.Term, e api.Errno) fault {
		return fault{name, addAxioms(axiom("x", kind, p)), e}
	}
	checkFaults(t, []fault{
		one("plain", api.Plain, good, api.OK), one("type definition", api.TypeDef, term.All(free("x", nat()), good), api.OK), one("variables", api.Plain, eq(schematic("x", tvar("a")), schematic("x", tvar("a"))), api.OK),
		{"no name", addAxioms(axiom("", 3, good)), api.ErrForm},
		one("kind 3", 3, zero(), api.ErrForm), one("kind -1", -1, good, api.ErrForm),
		{"twice", addAxioms(axiom("x", 0, good), axiom("x", 0, zero())), api.ErrDuplicate},
		{"name ahead of twice", addAxioms(axiom("protect_def", 3, good)), api.ErrForm},
		{"first axiom decides", addAxioms(axiom("x", 0, zero()), axiom("", 0, good)), api.ErrType},
		one("no form", api.Plain, api.Term{}, api.ErrForm), one("loose", api.Plain, bound(0), term.ErrLoose), one("no such constant", api.Plain, constant("k", prop()), api.ErrMissing),
		one("no type", api.Plain, app(good, good), api.ErrType), one("no proposition", api.Plain, free("x", nat()), api.ErrType),
		one("Free", api.Plain, free("x", prop()), api.ErrForm), one("TFree", api.Plain, eq(schematic("x", tfree("a")), schematic("x", tfree("a"))), api.ErrForm),
		one("Free of a definition", api.Defining, eq(zero(), free("x", nat())), api.ErrForm),
	})
}

func define(name string, left, right api.Term) api.Axiom {
	return axiom(name, api.Defining, eq(left, right))
}

func TestCheckDefinitions(t *testing.T) {
	a, b, l := tvar("a"), tvar("b"), con("list", tvar("a"))
	one := func(name string, left, right api.Term, e api.Errno) fault {
		return fault{name, addAxioms(define("x", left, right)), e}
	}
	k := func(t api.Type) api.Term { return abs(t, zero()) }
	indexed := api.Type{Op: api.TVar, Name: "a", Index: 1}
	checkFaults(t, []fault{
		one("constant", zero(), app(suc(), constant("top", nat())), api.OK), one("declared type", size(a), k(a), api.OK), one("special", size(l), k(l), api.OK), one("special without Args", size(nat()), k(nat()), api.OK),
		one("special with two", size(con("pair", a, b)), k(con("pair", a, b)), api.OK), one("special with other names", size(con("pair", tvar("x"), tvar("y"))), k(con("pair", tvar("x"), tvar("y"))), api.OK),
		one("functions", size(fun(a, b)), k(fun(a, b)), api.OK), one("protect", constant("protect", fun(prop(), prop())), abs(prop(), bound(0)), api.OK), one("sorts", constant("least", tvar("a", "c")), constant("top", tvar("a", "c")), api.OK),
		one("special with a sort", constant("least", con("list", tvar("x", "d"))), constant("top", con("list", tvar("x", "d"))), api.OK),
		{"no equation", addAxioms(axiom("x", api.Defining, constant("good", prop()))), theory.ErrDefine},
		one("of no constant", app(suc(), zero()), zero(), theory.ErrDefine), one("of a variable", schematic("x", nat()), zero(), theory.ErrDefine),
		one("imp", constant("imp", fun(prop(), prop(), prop())), abs(prop(), abs(prop(), bound(0))), theory.ErrDefine), one("eq", constant("eq", fun(a, a, prop())), abs(a, abs(a, constant("good", prop()))), theory.ErrDefine),
		one("all", constant("all", fun(fun(a, prop()), prop())), abs(fun(a, prop()), constant("good", prop())), theory.ErrDefine), one("eq at a type", constant("eq", fun(nat(), nat(), prop())), abs(nat(), abs(nat(), constant("good", prop()))), theory.ErrDefine),
		one("Var", zero(), schematic("x", nat()), theory.ErrDefine), one("type variable", zero(), app(size(a), constant("top", a)), theory.ErrDefine), one("another index", size(a), abs(a, app(size(indexed), constant("top", indexed))), theory.ErrDefine),
		one("another name of the variable", size(b), k(b), theory.ErrDefine), one("another index of the variable", size(indexed), k(indexed), theory.ErrDefine), one("narrower sort", size(tvar("a", "c")), k(tvar("a", "c")), theory.ErrDefine),
		one("Args alike", size(con("pair", a, a)), k(con("pair", a, a)), theory.ErrDefine), one("an Arg that is no variable", size(con("list", nat())), k(con("list", nat())), theory.ErrDefine), one("deep", size(con("list", l)), k(con("list", l)), theory.ErrDefine),
		one("an Arg of another index", size(con("list", indexed)), k(con("list", indexed)), theory.ErrDefine),
		one("two variables", constant("mix", fun(l, b, nat())), abs(l, abs(b, zero())), theory.ErrDefine), one("two variables, the declared type", constant("mix", fun(a, b, nat())), abs(a, abs(b, zero())), api.OK),
		{"two constants' names", addAxioms(define("x", zero(), constant("top", nat())), define("y", size(nat()), k(nat()))), api.OK},
		{"permitted ahead of what is behind", addAxioms(define("x", zero(), schematic("x", nat())), axiom("", 0, zero())), theory.ErrDefine},
		{"a wrong axiom ahead of circles", addAxioms(define("x", zero(), zero()), axiom("", 0, zero())), api.ErrForm},
	})
}

func TestDefinitionsFit(t *testing.T) {
	a, b, l, p := tvar("a"), tvar("b"), con("list", tvar("a")), con("pair", tvar("a"), tvar("b"))
	k := func(t api.Type) api.Term { return abs(t, zero()) }
	// use makes a function to nat that uses a constant at a type
	use := func(at api.Type, used api.Type) api.Term { return abs(at, app(size(used), constant("top", used))) }
	top := func(t api.Type) api.Term { return constant("top", t) }
	lc := func(c ...string) api.Type { return con("list", tvar("x", c...)) }
	checkFaults(t, []fault{
		{"different constructors", addAxioms(define("x", size(l), k(l)), define("y", size(nat()), k(nat())), define("z", size(p), k(p))), api.OK},
		{"twice", addAxioms(define("x", zero(), top(nat())), define("y", zero(), top(nat()))), theory.ErrDefine},
		{"one constructor twice", addAxioms(define("x", size(l), k(l)), define("y", size(con("list", b)), k(con("list", b)))), theory.ErrDefine},
		{"general and special", addAxioms(define("x", size(l), k(l)), define("y", size(a), k(a))), theory.ErrDefine},
		{"sorts play no part", addAxioms(define("x", constant("least", lc("c")), top(lc("c"))), define("y", constant("least", lc("d")), top(lc("d")))), theory.ErrDefine},
		// circles
		{"itself", addAxioms(define("x", zero(), app(suc(), zero()))), theory.ErrDefine},
		{"two", addAxioms(define("x", zero(), app(suc(), app(size(nat()), zero())))), theory.ErrDefine},
		{"circle of two", addAxioms(define("x", zero(), app(size(nat()), top(nat()))), define("y", size(nat()), abs(nat(), app(suc(), zero())))), theory.ErrDefine},
		{"circle of two, the other way", addAxioms(define("y", size(nat()), abs(nat(), app(suc(), zero()))), define("x", zero(), app(size(nat()), top(nat())))), theory.ErrDefine},
		{"no circle: another type", addAxioms(define("x", zero(), app(size(con("list", nat())), top(con("list", nat())))), define("y", size(nat()), abs(nat(), zero()))), api.OK},
		{"circle by an instance", addAxioms(define("x", zero(), app(size(con("list", nat())), top(con("list", nat())))), define("y", size(l), abs(l, zero()))), theory.ErrDefine},
		{"circle of three", addAxioms(define("x", zero(), app(suc(), top(nat()))), define("y", suc(), abs(nat(), app(size(nat()), bound(0)))), define("z", size(nat()), abs(nat(), zero()))), theory.ErrDefine},
		{"chain", addAxioms(define("x", zero(), app(suc(), top(nat()))), define("y", suc(), abs(nat(), app(size(nat()), bound(0)))), define("z", size(nat()), abs(nat(), top(nat())))), api.OK},
		{"two ways to one", addAxioms(define("x", zero(), app(suc(), app(size(nat()), top(nat())))), define("y", suc(), abs(nat(), app(size(nat()), bound(0)))), define("z", size(nat()), abs(nat(), top(nat())))), api.OK},
		{"at its own type", addAxioms(define("x", size(l), use(l, l))), theory.ErrDefine},
		{"at an argument", addAxioms(define("x", size(l), use(l, a))), api.OK},
		{"at both arguments", addAxioms(define("x", size(p), abs(p, app(size(a), app(abs(nat(), top(a)), app(size(b), top(b))))))), api.OK},
		{"at an argument, general", addAxioms(define("x", size(a), use(a, a))), theory.ErrDefine},
		{"at another type", addAxioms(define("x", size(l), use(l, nat()))), api.OK},
		{"within an argument", addAxioms(define("x", size(l), use(l, con("list", l)))), theory.ErrDefine},
		{"at a list of an argument", addAxioms(define("x", size(p), use(p, l))), api.OK},
		{"at each other's argument", addAxioms(define("x", size(p), use(p, a)), define("y", size(l), use(l, a))), api.OK},
		{"at each other's type", addAxioms(define("x", size(p), use(p, l)), define("y", size(l), use(l, p4(a)))), theory.ErrDefine},
		{"another constant at an argument", addAxioms(define("x", size(l), abs(l, app(size(l), constant("top", l))))), theory.ErrDefine},
		{"circle by another constant at an argument", addAxioms(define("x", size(l), abs(l, app(constant("weight", fun(a, nat())), top(a)))), define("y", constant("weight", fun(l, nat())), abs(l, app(size(l), bound(0))))), theory.ErrDefine},
		{"each other at an argument", addAxioms(define("x", size(l), abs(l, app(constant("weight", fun(a, nat())), top(a)))), define("y", constant("weight", fun(l, nat())), use(l, a))), theory.ErrDefine},
		{"an abstraction's name is no use", addAxioms(define("x", zero(), app(api.Term{Op: api.Abs, Name: "zero", Type: nat(), Kids: []api.Term{bound(0)}}, top(nat())))), api.OK},
		{"another constant, back by an argument", addAxioms(define("x", size(l), abs(l, app(suc(), app(size(nat()), top(nat()))))), define("y", suc(), abs(nat(), app(size(con("list", nat())), top(con("list", nat())))))), theory.ErrDefine},
		{"special ones of two constants", addAxioms(define("x", constant("least", lc("c")), constant("top", lc("c"))), define("y", size(l), k(l))), api.OK},
		{"general, behind a special one", addAxioms(define("y", size(a), k(a)), define("x", size(l), k(l))), theory.ErrDefine},
	})
	// a constant with two type variables meets itself at all types
	x := numbers()
	addConst("two", fun(a, b, prop()))(&x)
	addConst("one", fun(a, prop()))(&x)
	both := func(u, v api.Type) api.Term { return app(constant("two", fun(u, v, prop())), top(u), top(v)) }
	addAxioms(define("x", constant("two", fun(a, b, prop())), abs(a, abs(b, app(constant("one", fun(a, prop())), bound(1))))))(&x)
	if e := theory.Check(x); e != api.OK {
		t.Error(e)
	}
	addAxioms(define("y", constant("one", fun(a, prop())), abs(a, both(a, l))))(&x)
	if e := theory.Check(x); e != theory.ErrDefine {
		t.Error(e)
	}
}

func p4(a api.Type) api.Type { return con("pair", a, a) }

func TestWithin(t *testing.T) {
	x := numbers()
	if !theory.Within(theory.Pure(), x) || theory.Within(x, theory.Pure()) || !theory.Within(x, x) || !theory.Within(api.Theory{}, x) || theory.Within(x, api.Theory{}) {
		t.Error("Within")
	}
	for i, change := range []func(*api.Theory){
		func(t *api.Theory) { t.Classes[1].Supers = nil }, func(t *api.Theory) { t.Classes[0].Name = "e" }, func(t *api.Theory) { t.Types[2].Arity = 1 }, func(t *api.Theory) { t.Types[2].Name = "x" },
		func(t *api.Theory) { t.Arities[1].Sorts[0] = []string{"d"} }, func(t *api.Theory) { t.Arities[1].Class = "d" }, func(t *api.Theory) { t.Arities[1].Type = "x" }, func(t *api.Theory) { t.Arities[0].Sorts = [][]string{nil} },
		func(t *api.Theory) { t.Consts[4].Type = prop() }, func(t *api.Theory) { t.Consts[4].Name = "x" }, func(t *api.Theory) { t.Axioms[0].Kind = 1 }, func(t *api.Theory) { t.Axioms[0].Prop = zero() },
		func(t *api.Theory) { t.Axioms[0].Name = "x" }, func(t *api.Theory) { t.Oracles[0] = "x" }, func(t *api.Theory) { t.Oracles = nil },
	} {
		y := numbers()
		change(&y)
		if theory.Within(x, y) {
			t.Error(i)
		}
	}
	y := numbers()
	y.Name = "other"
	slices.Reverse(y.Consts)
	slices.Reverse(y.Types)
	y.Arities[0].Sorts = [][]string{}
	if !theory.Within(x, y) || !theory.Within(y, x) {
		t.Error("names and order play no part")
	}
	y.Axioms[0].Prop = eq(term.Protect(schematic("A", prop())), schematic("A", prop()))
	abs1, abs2 := eq(abs(nat(), bound(0)), suc()), eq(abs(nat(), bound(0)), suc())
	abs2.Kids[0].Kids[1].Name = "y"
	addAxioms(axiom("n", 0, abs1))(&x)
	addAxioms(axiom("n", 0, abs2))(&y)
	if !theory.Within(x, y) {
		t.Error("names of abstractions play no part")
	}
	// theories that are not right may have a name twice
	twice := api.Theory{Types: []api.TypeDecl{{Name: "a"}, {Name: "a", Arity: 1}}}
	if !theory.Within(twice, twice) || !theory.Within(api.Theory{Types: twice.Types[1:]}, twice) || theory.Within(twice, api.Theory{Types: twice.Types[1:]}) {
		t.Error("twice")
	}
}

func TestConstAndAxiom(t *testing.T) {
	x := numbers()
	u, ok := theory.Const(x, "size")
	if !ok || !types.Equal(u, fun(tvar("a"), nat())) {
		t.Error(u, ok)
	}
	u.Args[0].Name = "x"
	a, is := theory.Axiom(x, "protect_def")
	if !is || a.Name != "protect_def" || a.Kind != api.Plain || !term.Equal(a.Prop, theory.Pure().Axioms[0].Prop) {
		t.Error(a, is)
	}
	a.Prop.Kids[0].Kids[0].Type.Args[0].Name = "x"
	if !same(x, numbers()) {
		t.Error("the theory was changed")
	}
	v, ok := theory.Const(x, "protect_def")
	b, is := theory.Axiom(x, "size")
	if ok || is || v.Op != 0 || b.Name != "" || b.Prop.Op != 0 {
		t.Error(v, b)
	}
	twice := api.Theory{Consts: []api.ConstDecl{{Name: "a", Type: nat()}, {Name: "a", Type: prop()}}, Axioms: []api.Axiom{{Name: "a", Kind: 7}, {Name: "a"}}}
	v, _ = theory.Const(twice, "a")
	b, _ = theory.Axiom(twice, "a")
	if v.Name != "nat" || b.Kind != 7 {
		t.Error("the first one", v, b)
	}
}
