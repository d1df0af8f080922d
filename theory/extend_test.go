package theory_test

import (
	"slices"
	"strings"
	"testing"

	"triforium/api"
	"triforium/sort"
	"triforium/term"
	"triforium/theory"
	"triforium/types"
)

// wrong is a theory with an error: a class whose name is none.
func wrong() api.Theory {
	t := numbers()
	t.Classes[0].Name = "1"
	return t
}

func TestExtend(t *testing.T) {
	more := api.Theory{
		Name: "1", Classes: []api.Class{{Name: "e", Supers: []string{"d"}}}, Types: []api.TypeDecl{{Name: "set", Arity: 1}},
		Arities: []api.Arity{{Type: "nat", Class: "e"}, {Type: "nat", Class: "d"}}, Consts: []api.ConstDecl{{Name: "one", Type: nat()}},
		Axioms: []api.Axiom{axiom("a", api.Plain, constant("good", prop())), define("one_def", constant("one", nat()), app(suc(), zero()))}, Oracles: []string{"other"},
	}
	x := numbers()
	r, e := theory.Extend(x, "More", more)
	if e != api.OK || theory.Check(r) != api.OK || r.Name != "More" || !theory.Within(x, r) || !theory.Within(more, r) || !same(x, numbers()) {
		t.Fatal(e, r)
	}
	kx, km := x, more
	want := api.Theory{Classes: slices.Concat(kx.Classes, km.Classes), Types: slices.Concat(kx.Types, km.Types), Arities: slices.Concat(kx.Arities, km.Arities),
		Consts: slices.Concat(kx.Consts, km.Consts), Axioms: slices.Concat(kx.Axioms, km.Axioms), Oracles: slices.Concat(kx.Oracles, km.Oracles)}
	if !slices.Equal(keys(r), keys(want)) {
		t.Error(keys(r))
	}
	r, e = theory.Extend(x, "Same", api.Theory{})
	want = numbers()
	want.Name = "Same"
	if e != api.OK || !same(r, want) {
		t.Error(e, r)
	}
	for i, c := range []struct {
		t    api.Theory
		name string
		more api.Theory
		e    api.Errno
	}{
		{wrong(), "", api.Theory{Classes: []api.Class{{Name: "c"}}}, sort.ErrName}, {x, "", api.Theory{Oracles: []string{"trust"}}, api.ErrDuplicate}, {x, "", api.Theory{}, api.ErrForm},
		{x, "T", api.Theory{Classes: []api.Class{{Name: "1"}, {Name: "c"}}}, api.ErrDuplicate}, {x, "T", api.Theory{Types: []api.TypeDecl{{Name: "fun", Arity: 2}}}, api.ErrDuplicate},
		{x, "T", api.Theory{Arities: []api.Arity{{Type: "nat", Class: "c"}}}, api.ErrDuplicate}, {x, "T", api.Theory{Arities: []api.Arity{{Type: "pair", Class: "c", Sorts: [][]string{nil, nil}}}}, api.OK},
		{x, "T", api.Theory{Consts: []api.ConstDecl{{Name: "suc", Type: prop()}}}, api.ErrDuplicate}, {x, "T", api.Theory{Axioms: []api.Axiom{{Name: "protect_def"}}}, api.ErrDuplicate},
		{x, "T", api.Theory{Consts: []api.ConstDecl{{Name: "k", Type: con("set")}}}, api.ErrMissing}, {x, "T", api.Theory{Types: []api.TypeDecl{{Name: "k"}, {Name: "k"}}}, api.ErrDuplicate},
		{x, "T", api.Theory{Arities: []api.Arity{{Type: "pair", Class: "d", Sorts: [][]string{nil, nil}}}}, sort.ErrRegular}, {x, "T", api.Theory{Axioms: make([]api.Axiom, 300)}, api.ErrCount},
		{x, "T", api.Theory{Axioms: []api.Axiom{define("x", zero(), app(suc(), zero()))}}, theory.ErrDefine}, {api.Theory{}, "T", theory.Pure(), api.ErrForm},
	} {
		r, e := theory.Extend(c.t, c.name, c.more)
		if e != c.e || e != api.OK && len(keys(r)) != 0 {
			t.Error(i, e, c.e)
		}
	}
}

func TestMerge(t *testing.T) {
	x, pure := numbers(), theory.Pure()
	a, _ := theory.Extend(x, "A", api.Theory{Types: []api.TypeDecl{{Name: "ta"}}, Consts: []api.ConstDecl{{Name: "ka", Type: con("ta")}}, Oracles: []string{"oa", "o"}})
	b, _ := theory.Extend(x, "B", api.Theory{Types: []api.TypeDecl{{Name: "tb"}}, Consts: []api.ConstDecl{{Name: "kb", Type: con("tb")}}, Oracles: []string{"o", "ob"}})
	r, e := theory.Merge("R", a, b)
	want, _ := theory.Extend(a, "R", api.Theory{Types: []api.TypeDecl{{Name: "tb"}}, Consts: []api.ConstDecl{{Name: "kb", Type: con("tb")}}, Oracles: []string{"ob"}})
	if e != api.OK || !same(r, want) || !theory.Within(a, r) || !theory.Within(b, r) {
		t.Error(e, keys(r))
	}
	back, e := theory.Merge("R", b, a)
	if e != api.OK || !theory.Within(r, back) || !theory.Within(back, r) || back.Types[5].Name != "tb" {
		t.Error(e, keys(back))
	}
	r, e = theory.Merge("X", pure, x)
	if e != api.OK || r.Name != "X" || !theory.Within(r, x) || !theory.Within(x, r) {
		t.Error(e)
	}
	r, e = theory.Merge("Numbers", x, pure)
	if e != api.OK || !same(r, x) {
		t.Error(e)
	}
	extend := func(more api.Theory) api.Theory {
		r, e := theory.Extend(x, "E", more)
		if e != api.OK {
			t.Fatal(e)
		}
		return r
	}
	class := func(supers ...string) api.Theory {
		return extend(api.Theory{Classes: []api.Class{{Name: "e", Supers: supers}}})
	}
	arity := func(s string) api.Theory {
		return extend(api.Theory{Arities: []api.Arity{{Type: "pair", Class: "c", Sorts: [][]string{nil, {s}}}}})
	}
	kind := func(u api.Type) api.Theory {
		return extend(api.Theory{Consts: []api.ConstDecl{{Name: "k", Type: u}}})
	}
	ax := func(kind int, p api.Term) api.Theory {
		return extend(api.Theory{Axioms: []api.Axiom{axiom("x", kind, p)}})
	}
	def := func(name string, l, r api.Term) api.Theory {
		return extend(api.Theory{Axioms: []api.Axiom{define(name, l, r)}})
	}
	big := extend(api.Theory{Oracles: numbered("a", 200)})
	other := extend(api.Theory{Oracles: numbered("b", 200)})
	for i, c := range []struct {
		name string
		a, b api.Theory
		e    api.Errno
	}{
		{"", wrong(), api.Theory{}, sort.ErrName}, {"", x, wrong(), sort.ErrName}, {"", x, x, api.ErrForm}, {"", class("c"), class("d"), api.ErrTheory},
		{"T", class("c"), class("d"), api.ErrTheory}, {"T", class(), extend(api.Theory{Types: []api.TypeDecl{{Name: "e"}}}), api.OK}, {"T", class("c"), class("c"), api.OK},
		{"T", extend(api.Theory{Types: []api.TypeDecl{{Name: "t"}}}), extend(api.Theory{Types: []api.TypeDecl{{Name: "t", Arity: 1}}}), api.ErrTheory}, {"T", arity("c"), arity("d"), api.ErrTheory}, {"T", arity("c"), arity("c"), api.OK},
		{"T", kind(nat()), kind(prop()), api.ErrTheory}, {"T", kind(tvar("a")), kind(tvar("a")), api.OK}, {"T", ax(0, constant("good", prop())), ax(2, constant("good", prop())), api.ErrTheory},
		{"T", ax(0, constant("good", prop())), ax(0, constant("top", prop())), api.ErrTheory}, {"T", def("x", zero(), constant("top", nat())), def("y", zero(), constant("top", nat())), theory.ErrDefine},
		{"T", def("x", zero(), app(suc(), constant("top", nat()))), def("y", suc(), abs(nat(), zero())), theory.ErrDefine}, {"T", big, other, api.ErrCount}, {"T", big, big, api.OK},
		{"T", extend(api.Theory{Classes: []api.Class{{Name: "e", Supers: []string{"d"}}}}), extend(api.Theory{Arities: []api.Arity{{Type: "nat", Class: "d"}}}), api.OK},
	} {
		r, e := theory.Merge(c.name, c.a, c.b)
		if e != c.e || e != api.OK && len(keys(r)) != 0 {
			t.Error(i, e, c.e)
		}
	}
}

func TestDefine(t *testing.T) {
	x, a := numbers(), tfree("a", "c")
	rhs := abs(a, abs(tfree("b"), app(abs(fun(a, nat()), app(bound(0), bound(2))), size(a))))
	r, e := theory.Define(x, "D", "k", rhs)
	u := fun(tvar("a", "c"), tvar("b"), nat())
	kind, ok := theory.Const(r, "k")
	if e != api.OK || theory.Check(r) != api.OK || r.Name != "D" || !theory.Within(x, r) || !ok || !types.Equal(kind, u) || len(keys(r)) != len(keys(x))+2 {
		t.Fatal(e, kind)
	}
	v := tvar("a", "c")
	want := axiom("k_def", api.Defining, eq(constant("k", u), abs(v, abs(tvar("b"), app(abs(fun(v, nat()), app(bound(0), bound(2))), size(v))))))
	got, ok := theory.Axiom(r, "k_def")
	if !ok || got.Kind != want.Kind || !term.Equal(got.Prop, want.Prop) || r.Axioms[len(r.Axioms)-1].Name != "k_def" || r.Consts[len(r.Consts)-1].Name != "k" {
		t.Error(got)
	}
	named, _ := theory.Extend(x, "N", api.Theory{Axioms: []api.Axiom{axiom("k_def", 0, constant("good", prop()))}})
	for i, c := range []struct {
		t       api.Theory
		name, c string
		rhs     api.Term
		e       api.Errno
	}{
		{wrong(), "", "", api.Term{}, sort.ErrName}, {x, "", "", api.Term{}, api.ErrForm}, {x, "", "", bound(0), term.ErrLoose}, {x, "", "", constant("k", nat()), api.ErrMissing}, {x, "", "", app(zero(), free("x", nat())), api.ErrType},
		{x, "", "zero", free("x", nat()), theory.ErrDefine}, {x, "", "zero", schematic("x", nat()), theory.ErrDefine}, {x, "", "zero", constant("top", tvar("a")), theory.ErrDefine}, {x, "", "zero", zero(), api.ErrDuplicate},
		{named, "", "k", zero(), api.ErrDuplicate}, {x, "", "k", zero(), api.ErrForm}, {x, "T", "", zero(), api.ErrForm}, {x, "T", "1", zero(), api.ErrForm}, {x, "T", "k", zero(), api.OK}, {x, "T", "c", zero(), api.OK},
		{x, "T", strings.Repeat("k", 36), zero(), api.OK}, {x, "T", strings.Repeat("k", 37), zero(), api.ErrForm}, {x, "T", strings.Repeat("k", 41), zero(), api.ErrForm},
		// a type variable that the type does not have
		{x, "T", "k", app(size(tfree("a")), constant("top", tfree("a"))), theory.ErrDefine}, {x, "T", "k", size(tfree("a")), api.OK},
		{x, "T", "k", constant("imp", fun(prop(), prop(), prop())), api.OK}, {api.Theory{}, "T", "k", zero(), api.ErrForm},
	} {
		r, e := theory.Define(c.t, c.name, c.c, c.rhs)
		if e != c.e || e != api.OK && len(keys(r)) != 0 {
			t.Error(i, e, c.e)
		}
	}
	deep := zero()
	for range 498 {
		deep = app(suc(), deep)
	}
	if _, e := theory.Define(x, "T", "k", deep); e != api.OK {
		t.Error("499 levels", e)
	}
	if _, e := theory.Define(x, "T", "k", app(suc(), deep)); e != api.ErrDepth {
		t.Error("500 levels are too many for the axiom", e)
	}
}

func TestOverload(t *testing.T) {
	x, at := numbers(), con("pair", tfree("a"), tfree("b"))
	rhs := abs(at, app(size(tfree("a")), constant("top", tfree("a"))))
	r, e := theory.Overload(x, "O", "size", at, rhs)
	p := con("pair", tvar("a"), tvar("b"))
	got, ok := theory.Axiom(r, "size_pair_def")
	if e != api.OK || theory.Check(r) != api.OK || r.Name != "O" || !theory.Within(x, r) || !ok || len(keys(r)) != len(keys(x))+1 || got.Kind != api.Defining ||
		!term.Equal(got.Prop, eq(size(p), abs(p, app(size(tvar("a")), constant("top", tvar("a")))))) {
		t.Fatal(e, got)
	}
	k := func(t api.Type) api.Term { return abs(t, zero()) }
	la := con("list", tfree("a"))
	defined, e := theory.Overload(r, "P", "size", la, k(la))
	if _, ok := theory.Axiom(defined, "size_list_def"); e != api.OK || !ok {
		t.Error(e)
	}
	general, _ := theory.Extend(x, "G", api.Theory{Axioms: []api.Axiom{define("x", size(tvar("a")), k(tvar("a")))}})
	long := numbers()
	addConst(strings.Repeat("k", 35), tvar("a"))(&long)
	for i, c := range []struct {
		t   api.Theory
		c   string
		at  api.Type
		rhs api.Term
		e   api.Errno
	}{
		{wrong(), "k", api.Type{}, api.Term{}, sort.ErrName}, {x, "k", api.Type{}, api.Term{}, api.ErrMissing}, {x, "zero", api.Type{}, api.Term{}, theory.ErrDefine}, {x, "mix", api.Type{}, api.Term{}, theory.ErrDefine},
		{x, "size", api.Type{}, api.Term{}, api.ErrForm}, {x, "size", con("set"), api.Term{}, api.ErrMissing}, {x, "size", con("list"), api.Term{}, api.ErrCount},
		{x, "size", nat(), api.Term{}, api.ErrForm}, {x, "size", nat(), bound(0), term.ErrLoose}, {x, "size", nat(), free("x", prop()), theory.ErrDefine}, {x, "size", nat(), schematic("x", prop()), theory.ErrDefine},
		{x, "size", nat(), constant("top", tvar("a")), theory.ErrDefine}, {x, "size", nat(), zero(), api.ErrType}, {x, "size", la, k(nat()), api.ErrType}, {x, "size", la, k(con("list", tfree("b"))), api.ErrType},
		{x, "size", la, k(con("list", tfree("a", "c"))), api.ErrType}, {x, "size", con("list", tvar("a")), k(la), api.ErrType}, {x, "size", la, k(la), api.OK}, {x, "size", nat(), k(nat()), api.OK}, {x, "size", fun(tfree("a"), tfree("b")), k(fun(tfree("a"), tfree("b"))), api.OK},
		{r, "size", at, k(at), api.ErrDuplicate}, {general, "size", la, k(la), theory.ErrDefine}, {x, "size", con("list", nat()), k(con("list", nat())), theory.ErrDefine}, {x, "size", p2(), k(p2()), theory.ErrDefine},
		{x, "size", tfree("b"), k(tfree("b")), theory.ErrDefine}, {x, "size", la, abs(la, app(size(la), bound(0))), theory.ErrDefine}, {x, "eq", nat(), constant("top", fun(nat(), nat(), prop())), theory.ErrDefine},
		{x, "least", nat(), zero(), api.OK}, {x, "least", prop(), constant("good", prop()), api.ErrType}, {x, "least", la, constant("top", la), api.ErrType}, {x, "least", con("list", tfree("a", "c")), constant("top", con("list", tfree("a", "c"))), api.OK},
		{long, strings.Repeat("k", 35), nat(), zero(), api.ErrForm}, {long, strings.Repeat("k", 35), con("list", tfree("b")), constant("top", con("list", tfree("b"))), api.ErrForm},
	} {
		r, e := theory.Overload(c.t, "T", c.c, c.at, c.rhs)
		if e != c.e || e != api.OK && len(keys(r)) != 0 {
			t.Error(i, e, c.e)
		}
	}
	if _, e := theory.Overload(x, "", "size", nat(), k(nat())); e != api.ErrForm {
		t.Error(e)
	}
}

// That a definition is not permitted at a type is an error of the result, and stands behind the others that Extend finds.
func TestOverloadWhereNoneIsPermitted(t *testing.T) {
	x, b := numbers(), tfree("b")
	k := func(t api.Type) api.Term { return abs(t, zero()) }
	named := numbers()
	addAxioms(axiom("size_b_def", api.Plain, constant("good", prop())), axiom("size_list_def", api.Plain, constant("good", prop())))(&named)
	full := numbers()
	for _, name := range numbered("x", 299) {
		addAxioms(axiom(name, api.Plain, constant("good", prop())))(&full)
	}
	long := strings.Repeat("k", 34)
	longer := numbers()
	addConst(long, tvar("a"))(&longer)
	addConst("l"+long, tvar("a"))(&longer)
	for i, c := range []struct {
		t       api.Theory
		name, c string
		at      api.Type
		rhs     api.Term
		e       api.Errno
	}{
		{x, "1", "size", b, k(b), api.ErrForm}, {x, "", "size", b, k(b), api.ErrForm}, {x, "T", "size", b, k(b), theory.ErrDefine},
		{x, "1", "size", con("list", nat()), k(con("list", nat())), api.ErrForm}, {x, "T", "size", con("list", nat()), k(con("list", nat())), theory.ErrDefine},
		{x, "1", "size", p2(), k(p2()), api.ErrForm}, {x, "T", "size", p2(), k(p2()), theory.ErrDefine},
		{x, "1", "eq", nat(), constant("top", fun(nat(), nat(), prop())), api.ErrForm},
		// what stands ahead of the errors of Extend
		{x, "1", "size", tfree("1"), k(b), api.ErrForm}, {x, "1", "size", tfree("b", "x"), k(b), api.ErrMissing}, {x, "1", "size", b, free("x", nat()), theory.ErrDefine}, {x, "1", "size", b, k(nat()), api.ErrType},
		// api.ErrDuplicate stands ahead of the error of the result, and the number and the names of axioms in it ahead of what is permitted
		{named, "1", "size", b, k(b), api.ErrDuplicate}, {named, "T", "size", b, k(b), api.ErrDuplicate}, {named, "T", "size", con("list", nat()), k(con("list", nat())), api.ErrDuplicate},
		{full, "1", "size", b, k(b), api.ErrForm}, {full, "T", "size", b, k(b), api.ErrCount},
		{longer, "T", long, b, constant("top", b), theory.ErrDefine}, {longer, "T", "l" + long, b, constant("top", b), api.ErrForm}, {longer, "T", long, tfree("bb"), constant("top", tfree("bb")), api.ErrForm},
		// a variable that has not the sort of the declared type's one
		{x, "1", "low", b, k(b), api.ErrForm}, {x, "T", "low", b, k(b), api.ErrType}, {x, "T", "low", tfree("b", "d"), k(tfree("b", "d")), theory.ErrDefine},
	} {
		r, e := theory.Overload(c.t, c.name, c.c, c.at, c.rhs)
		if e != c.e || len(keys(r)) != 0 || r.Name != "" {
			t.Error(i, e, c.e)
		}
	}
}

// A TFree with the name and the sort of the declared type's variable gives the declared type, at which definitions are permitted.
func TestOverloadAtTheDeclaredType(t *testing.T) {
	x, a := numbers(), tfree("a")
	r, e := theory.Overload(x, "T", "size", a, abs(a, zero()))
	got, ok := theory.Axiom(r, "size_a_def")
	if e != api.OK || theory.Check(r) != api.OK || len(keys(r)) != len(keys(x))+1 || !ok || got.Kind != api.Defining || !term.Equal(got.Prop, eq(size(tvar("a")), abs(tvar("a"), zero()))) {
		t.Error(e, got)
	}
	if _, e := theory.Overload(x, "1", "size", a, abs(a, zero())); e != api.ErrForm {
		t.Error(e)
	}
	if _, e := theory.Overload(r, "T", "size", nat(), abs(nat(), zero())); e != theory.ErrDefine {
		t.Error("two definitions with a common instance", e)
	}
	if _, e := theory.Overload(x, "T", "size", a, abs(a, app(size(a), bound(0)))); e != theory.ErrDefine {
		t.Error("a circle", e)
	}
	if _, e := theory.Overload(x, "T", "low", a, abs(a, zero())); e != api.ErrType {
		t.Error("without the sort", e)
	}
	if _, e := theory.Overload(x, "T", "low", tfree("a", "c"), abs(tfree("a", "c"), zero())); e != api.OK {
		t.Error(e)
	}
}

func p2() api.Type { return con("pair", tfree("a"), tfree("a")) }

func TestUnfolded(t *testing.T) {
	x := numbers()
	must := func(r api.Theory, e api.Errno) api.Theory {
		t.Helper()
		if e != api.OK {
			t.Fatal(e)
		}
		return r
	}
	x = must(theory.Define(x, "A", "one", app(suc(), zero())))
	x = must(theory.Define(x, "A", "two", app(suc(), constant("one", nat()))))
	x = must(theory.Define(x, "A", "id", abs(tfree("a"), bound(0))))
	la, lc := con("list", tfree("a")), con("list", tfree("a", "d"))
	x = must(theory.Overload(x, "A", "size", la, abs(la, app(size(tfree("a")), constant("top", tfree("a"))))))
	x = must(theory.Overload(x, "A", "size", nat(), abs(nat(), constant("one", nat()))))
	x = must(theory.Overload(x, "A", "least", lc, constant("top", lc)))
	one := app(suc(), zero())
	lln := con("list", con("list", nat()))
	id := func(u api.Type) api.Term { return constant("id", fun(u, u)) }
	ly := con("list", tfree("y"))
	for i, c := range []struct{ t, want api.Term }{
		{zero(), zero()}, {constant("one", nat()), one}, {constant("two", nat()), app(suc(), one)}, {app(suc(), constant("two", nat())), app(suc(), app(suc(), one))},
		{abs(nat(), app(id(nat()), bound(0))), abs(nat(), app(abs(nat(), bound(0)), bound(0)))}, {id(fun(tvar("z"), nat())), abs(fun(tvar("z"), nat()), bound(0))},
		{free("one", nat()), free("one", nat())}, {schematic("two", nat()), schematic("two", nat())}, {app(free("f", fun(nat(), nat(), nat())), constant("one", nat()), constant("one", nat())), app(free("f", fun(nat(), nat(), nat())), one, one)},
		// by the type
		{size(nat()), abs(nat(), one)}, {size(tfree("y")), size(tfree("y"))}, {size(con("pair", nat(), nat())), size(con("pair", nat(), nat()))}, {size(ly), abs(ly, app(size(tfree("y")), constant("top", tfree("y"))))},
		{size(lln), abs(lln, app(abs(lln.Args[0], app(abs(nat(), one), constant("top", nat()))), constant("top", lln.Args[0])))},
		// by the sort
		{constant("least", con("list", tfree("y", "d"))), constant("top", con("list", tfree("y", "d")))}, {constant("least", con("list", tfree("y", "c"))), constant("least", con("list", tfree("y", "c")))}, {constant("least", nat()), constant("least", nat())},
	} {
		if r, e := theory.Unfolded(x, c.t); e != api.OK || !term.Equal(r, c.want) {
			s, _ := term.Text(r)
			t.Error(i, e, s)
		}
	}
	for i, c := range []struct {
		t api.Theory
		x api.Term
		e api.Errno
	}{
		{wrong(), api.Term{}, sort.ErrName}, {api.Theory{}, zero(), api.ErrForm}, {x, api.Term{}, api.ErrForm}, {x, bound(0), term.ErrLoose}, {x, constant("none", nat()), api.ErrMissing}, {x, app(zero(), zero()), api.ErrType},
		{x, constant("id", fun(nat(), prop())), api.ErrType}, {x, free("x", con("set")), api.ErrMissing},
	} {
		if r, e := theory.Unfolded(c.t, c.x); e != c.e || r.Op != 0 {
			t.Error(i, e, c.e)
		}
	}
}

// balanced has n nodes, for an odd n, and a small depth.
func balanced(f api.Term, n int) api.Term {
	if n == 1 {
		return zero()
	}
	if n == 3 {
		return app(suc(), zero())
	}
	left := (n - 3) / 2
	if left%2 == 0 {
		left--
	}
	return app(f, balanced(f, left), balanced(f, n-3-left))
}

func TestUnfoldedLimits(t *testing.T) {
	x := numbers()
	f := constant("f", fun(nat(), nat(), nat()))
	addConst("f", f.Type)(&x)
	var e api.Errno
	// each constant is the double of the one ahead: k13 has 2^14 - 1 nodes more than twice
	last := zero()
	for i := range 14 {
		name := "k" + string(rune('a'+i))
		x, e = theory.Define(x, "T", name, app(f, last, last))
		if e != api.OK {
			t.Fatal(i, e)
		}
		last = constant(name, nat())
	}
	if r, e := theory.Unfolded(x, constant("kl", nat())); e != api.OK {
		t.Error(e)
	} else if n, _ := term.Size(r); n != 1<<14-3 {
		t.Error(n)
	}
	if r, e := theory.Unfolded(x, constant("km", nat())); e != api.ErrCount || r.Op != 0 {
		t.Error(e)
	}
	// a constant that is deep
	deep := zero()
	for range 300 {
		deep = app(suc(), deep)
	}
	x, e = theory.Define(x, "T", "deep", deep)
	if e != api.OK {
		t.Fatal(e)
	}
	top := constant("deep", nat())
	for range 199 {
		top = app(suc(), top)
	}
	if _, e := theory.Unfolded(x, top); e != api.OK {
		t.Error("500 levels", e)
	}
	if r, e := theory.Unfolded(x, app(suc(), top)); e != api.ErrDepth || r.Op != 0 {
		t.Error("501 levels", e)
	}
	// just as many nodes as there may be, and one more
	x, e = theory.Define(x, "T", "half", balanced(f, 9999))
	if e != api.OK {
		t.Fatal(e)
	}
	x, e = theory.Define(x, "T", "less", balanced(f, 9997))
	if e != api.OK {
		t.Fatal(e)
	}
	exact := abs(nat(), app(f, constant("half", nat()), constant("less", nat())))
	if r, e := theory.Unfolded(x, exact); e != api.OK {
		t.Error("20000 nodes", e)
	} else if n, _ := term.Size(r); n != 20000 {
		t.Error(n)
	}
	if _, e := theory.Unfolded(x, abs(nat(), exact)); e != api.ErrCount {
		t.Error("20001 nodes", e)
	}
	// definitions of one node
	x, e = theory.Define(x, "T", "again", constant("deep", nat()))
	if r, f := theory.Unfolded(x, constant("again", nat())); e != api.OK || f != api.OK || !term.Equal(r, deep) {
		t.Error(e, f)
	}
}

// A type that grows with each definition ends with an error, not with all memory.
func TestUnfoldedTypes(t *testing.T) {
	x := numbers()
	pair := func(u api.Type) api.Type { return con("pair", u, u) }
	name := func(i int) string { return "k" + string(rune('a'+i/26)) + string(rune('a'+i%26)) }
	a := tfree("a")
	var e api.Errno
	x, e = theory.Define(x, "T", name(0), abs(a, zero()))
	for i := 1; i < 60 && e == api.OK; i++ {
		x, e = theory.Define(x, "T", name(i), abs(a, app(constant(name(i-1), fun(pair(a), nat())), constant("top", pair(a)))))
	}
	if e != api.OK {
		t.Fatal(e)
	}
	if _, e := theory.Unfolded(x, constant(name(5), fun(nat(), nat()))); e != api.OK {
		t.Error(e)
	}
	if r, e := theory.Unfolded(x, constant(name(59), fun(nat(), nat()))); e != api.ErrCount || r.Op != 0 {
		t.Error(e)
	}
}

// What a function returned may be changed, and what it was given stays as it is.
func TestOwnMemory(t *testing.T) {
	x := numbers()
	y, _ := theory.Extend(x, "Numbers", api.Theory{})
	z, _ := theory.Merge("Numbers", x, x)
	d, _ := theory.Define(x, "Numbers", "k", size(nat()))
	o, _ := theory.Overload(x, "Numbers", "size", nat(), abs(nat(), zero()))
	c := theory.Clone(x)
	all := []*api.Theory{&x, &y, &z, &d, &o, &c}
	for i, v := range all {
		v.Classes[1].Supers[0], v.Types[0].Name, v.Arities[1].Sorts[0][0], v.Oracles[0] = name(i), name(i), name(i), name(i)
		for k := range v.Consts {
			spoil(&v.Consts[k].Type, name(i))
		}
		for k := range v.Axioms {
			v.Axioms[k].Prop.Kids[0].Kids[0].Type.Args[0].Name = name(i)
		}
	}
	for i, v := range all {
		l := []string{v.Classes[1].Supers[0], v.Types[0].Name, v.Arities[1].Sorts[0][0], v.Oracles[0]}
		for _, c := range v.Consts {
			l = append(l, namesIn(c.Type)...)
		}
		for _, a := range v.Axioms {
			l = append(l, a.Prop.Kids[0].Kids[0].Type.Args[0].Name)
		}
		if slices.ContainsFunc(l, func(s string) bool { return s != name(i) }) {
			t.Error(i, "shares memory", l)
		}
	}
	w, rhs := numbers(), size(nat())
	u, _ := theory.Unfolded(w, rhs)
	u.Type.Args[0].Name = "x"
	if rhs.Type.Args[0].Name != "nat" || !same(w, numbers()) {
		t.Error("Unfolded")
	}
}

func TestOpen(t *testing.T) {
	x := numbers()
	s, e := theory.Open(x)
	u, f := s.Check(app(suc(), zero()))
	if e != api.OK || f != api.OK || !types.Equal(u, nat()) || !same(theory.Clone(x), x) {
		t.Error(e, f, u)
	}
	for i, c := range []func(*api.Theory){func(x *api.Theory) { x.Name = "1" }, func(x *api.Theory) { x.Axioms = nil }, addAxioms(axiom("bad", 7, zero()))} {
		y := theory.Clone(x)
		c(&y)
		if _, e := theory.Open(y); e == api.OK || e != theory.Check(y) {
			t.Error(i, e)
		}
	}
}

// A constant with a sort within its type is overloaded: the theory that was given keeps it.
func TestSortsStay(t *testing.T) {
	x := numbers()
	y, e := theory.Overload(x, "Numbers", "low", con("list", tfree("b", "d")), abs(con("list", tfree("b", "d")), zero()))
	if e != api.OK || theory.Check(y) != api.OK || !same(x, numbers()) {
		t.Error(e, x.Consts)
	}
	if u, _ := theory.Const(y, "low"); !types.Equal(u, fun(tvar("a", "c"), nat())) {
		t.Error(u)
	}
}

// spoil changes the names of all nodes of a type.
func spoil(t *api.Type, name string) {
	for n := range types.Nodes(t) {
		n.Name = name
	}
}

// namesIn lists the names of all nodes of a type.
func namesIn(t api.Type) []string {
	l := []string{t.Name}
	for _, a := range t.Args {
		l = append(l, namesIn(a)...)
	}
	return l
}

func name(i int) string { return "changed" + string(rune('a'+i)) }

func TestExample(t *testing.T) {
	x, e := theory.Define(theory.Pure(), "T", "id", abs(tfree("a"), bound(0)))
	u, ok := theory.Const(x, "id")
	a, is := theory.Axiom(x, "id_def")
	v := tvar("a")
	if e != api.OK || !ok || !is || !types.Equal(u, fun(v, v)) || !term.Equal(a.Prop, eq(constant("id", fun(v, v)), abs(v, bound(0)))) {
		t.Error(e, u, a)
	}
}

// A use at an argument of the constructor leads nowhere, so that these definitions are permitted; but unfolding them does not end by itself.
func TestUnfoldedForever(t *testing.T) {
	x, l := numbers(), con("list", tvar("a"))
	addConst("one", nat())(&x)
	addAxioms(
		define("list", size(l), abs(l, app(suc(), app(size(tvar("a")), constant("top", tvar("a")))))),
		define("nat", size(nat()), abs(nat(), constant("one", nat()))),
		define("one", constant("one", nat()), app(size(con("list", nat())), constant("top", con("list", nat())))),
	)(&x)
	if e := theory.Check(x); e != api.OK {
		t.Fatal(e)
	}
	if r, e := theory.Unfolded(x, size(nat())); e != api.ErrDepth || r.Op != 0 {
		t.Error(e)
	}
}

func TestReadme(t *testing.T) {
	id, _ := term.Read(`(\x:'a . #0)`)
	thy, e := theory.Define(theory.Pure(), "T", "id", id)
	use, f := term.Read(`(id:fun(prop, prop) $A:prop)`)
	kind, g := term.Check(thy, use)
	plain, h := theory.Unfolded(thy, use)
	short, i := term.Norm(plain, 10)
	text, j := term.Text(short)
	s, _ := term.Text(plain)
	if !types.Equal(kind, prop()) || s != `((\x:prop . #0) $A:prop)` || text != "$A:prop" {
		t.Error(kind, s, text)
	}
	for _, e := range []api.Errno{e, f, g, h, i, j} {
		if e != api.OK {
			t.Error(e)
		}
	}
}
