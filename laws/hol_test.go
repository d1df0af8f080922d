package laws

import (
	"math/rand"
	"slices"
	"testing"

	"triforium/api"
	"triforium/kernel"
	"triforium/model"
	"triforium/term"
	"triforium/theory"
	"triforium/types"
)

func boolean() api.Type { return con("bool") }

func schematic(name string, t api.Type) api.Term {
	return api.Term{Op: api.Var, Name: name, Type: t}
}

// holConsts has the constants of HOL.
func holConsts() []api.ConstDecl {
	b, a := boolean(), tvar("a")
	return []api.ConstDecl{
		{Name: "Trueprop", Type: fun(b, prop())}, {Name: "True", Type: b}, {Name: "False", Type: b}, {Name: "Not", Type: fun(b, b)},
		{Name: "And", Type: fun(b, fun(b, b))}, {Name: "Or", Type: fun(b, fun(b, b))}, {Name: "Implies", Type: fun(b, fun(b, b))},
		{Name: "Equal", Type: fun(a, fun(a, b))}, {Name: "All", Type: fun(fun(a, b), b)}, {Name: "Ex", Type: fun(fun(a, b), b)},
		{Name: "The", Type: fun(fun(a, b), a)}, {Name: "If", Type: fun(b, fun(a, fun(a, a)))},
	}
}

// rule returns premises and a conclusion of the type bool as a proposition; what is of the type prop already stays.
func rule(l ...api.Term) api.Term {
	for i, t := range l {
		if u := must(term.TypeOf(t)); types.Equal(u, boolean()) {
			l[i] = app(constant("Trueprop", fun(boolean(), prop())), t)
		}
	}
	r := l[len(l)-1]
	for i := len(l) - 2; i >= 0; i-- {
		r = term.Imp(l[i], r)
	}
	return r
}

// op returns a constant of HOL, applied to terms; a is the type that stands for its variable.
func op(name string, a api.Type, l ...api.Term) api.Term {
	for _, c := range holConsts() {
		if c.Name == name {
			return app(constant(name, types.Apply([]api.TypeBind{{Name: "a", To: a}}, c.Type)), l...)
		}
	}
	panic(name)
}

// for1 returns !!x. of a proposition.
func for1(t api.Type, of func(x api.Term) api.Term) api.Term {
	x := api.Term{Op: api.Free, Name: "x", Type: t}
	return term.All(x, rule(of(x)))
}

// hol returns the theory HOL.
func hol() api.Theory {
	b, a, c := boolean(), tvar("a"), tvar("b")
	p, q, r := schematic("P", b), schematic("Q", b), schematic("R", b)
	x, y, z, set := schematic("x", a), schematic("y", a), schematic("a", a), schematic("P", fun(a, b))
	f, g := schematic("f", fun(a, c)), schematic("g", fun(a, c))
	not := func(x api.Term) api.Term { return op("Not", a, x) }
	two := func(name string, x, y api.Term) api.Term { return op(name, a, x, y) }
	equal := func(x, y api.Term) api.Term { return op("Equal", must(term.TypeOf(x)), x, y) }
	is := func(n string, t api.Term) api.Axiom { return api.Axiom{Name: n, Prop: t} }
	singleton := op("The", a, abs(a, op("Equal", a, bound(0), z)))
	return must(theory.Extend(theory.Pure(), "HOL", api.Theory{
		Types: []api.TypeDecl{{Name: "bool"}}, Consts: holConsts(),
		Axioms: []api.Axiom{
			is("trueI", rule(op("True", a))), is("falseE", rule(op("False", a), p)), is("notI", rule(rule(p, op("False", a)), not(p))),
			is("notE", rule(not(p), p, q)), is("conjI", rule(p, q, two("And", p, q))), is("conjunct1", rule(two("And", p, q), p)),
			is("conjunct2", rule(two("And", p, q), q)), is("disjI1", rule(p, two("Or", p, q))), is("disjI2", rule(q, two("Or", p, q))),
			is("disjE", rule(two("Or", p, q), rule(p, r), rule(q, r), r)), is("impI", rule(rule(p, q), two("Implies", p, q))),
			is("mp", rule(two("Implies", p, q), p, q)),
			is("allI", rule(for1(a, func(x api.Term) api.Term { return app(set, x) }), op("All", a, set))),
			is("spec", rule(op("All", a, set), app(set, x))), is("exI", rule(app(set, x), op("Ex", a, set))),
			is("exE", rule(op("Ex", a, set), for1(a, func(x api.Term) api.Term { return rule(app(set, x), q) }), q)),
			is("refl", rule(equal(x, x))), is("subst", rule(equal(x, y), app(set, x), app(set, y))),
			is("ext", rule(for1(a, func(x api.Term) api.Term { return equal(app(f, x), app(g, x)) }), equal(f, g))),
			is("iffI", rule(rule(p, q), rule(q, p), equal(p, q))), is("excluded_middle", rule(two("Or", p, not(p)))),
			is("the_eq", rule(equal(singleton, z))),
			is("if_true", rule(p, equal(op("If", a, p, x, y), x))), is("if_false", rule(not(p), equal(op("If", a, p, x, y), y))),
			is("eq_reflection", rule(equal(x, y), must(term.Eq(x, y)))),
		},
	}))
}

// world returns a random theory on HOL with a type t, and a model in which its axioms hold: those of HOL, definitions, and some without type variables.
func world(r *rand.Rand) (api.Theory, model.Model) {
	n := con("t")
	thy := must(theory.Extend(hol(), "World", api.Theory{
		Types: []api.TypeDecl{{Name: "t"}}, Oracles: []string{"trust", "guess"},
		Consts: []api.ConstDecl{{Name: "zero", Type: n}, {Name: "next", Type: fun(n, n)}, {Name: "good", Type: fun(n, boolean())}, {Name: "most", Type: prop()}},
	}))
	thy = must(theory.Define(thy, "World", "twice", abs(fun(tfree("a"), tfree("a")), abs(tfree("a"), app(bound(1), app(bound(1), bound(0)))))))
	thy = must(theory.Define(thy, "World", "far", app(constant("twice", fun(fun(n, n), fun(n, n))), constant("next", fun(n, n)))))
	size := 1 + r.Intn(3)
	m := model.Model{
		Carriers: []model.Carrier{{Name: "t", Cases: make([][]api.Type, size)}},
		Ground:   []api.Type{boolean(), n, prop()}[:1+r.Intn(3)],
	}
	for _, c := range []string{"zero", "next", "good", "most"} {
		u, _ := theory.Const(thy, c)
		m.Meanings = append(m.Meanings, model.Meaning{Name: c, How: model.Table, Value: r.Intn(must(model.Size(thy, m, u)))})
	}
	return thy, m
}

// withAxioms adds random axioms that hold in the model and have no type variables.
func withAxioms(g *maker, thy api.Theory, m model.Model) (api.Theory, []string) {
	var names []string
	for range 60 {
		p := varsOnly(g.term(prop(), nil, 4))
		if len(term.TypeVariables(p)) > 0 {
			continue
		}
		ok, _, e := model.Holds(thy, m, nil, p)
		if !ok || e != api.OK {
			continue
		}
		name := "ax" + string(rune('a'+len(names)))
		thy = must(theory.Extend(thy, "World", api.Theory{Axioms: []api.Axiom{{Name: name, Prop: p}}}))
		if names = append(names, name); len(names) == 4 {
			break
		}
	}
	return thy, names
}

// varsOnly makes schematic variables of fixed ones.
func varsOnly(t api.Term) api.Term {
	if t.Op == api.Free {
		t.Op, t.Num = api.Var, 5
	}
	for i := range t.Kids {
		t.Kids[i] = varsOnly(t.Kids[i])
	}
	return t
}

// P8.2: theorems without oracles hold in the models of their theories' axioms.
func TestTheoremsHold(t *testing.T) {
	asked, held, open := 0, 0, 0
	for seed := range int64(60) {
		r := rand.New(rand.NewSource(seed))
		thy, m := world(r)
		g := &maker{r: r, thys: []api.Theory{thy}, base: []api.Type{con("t"), boolean()}, consts: thy.Consts}
		thy, g.axioms = withAxioms(g, thy, m)
		g.axioms = append(g.axioms, "conjI", "spec", "exE", "refl", "ext", "the_eq", "eq_reflection", "if_false", "twice_def", "far_def", "protect_def")
		if ok, name, e := model.True(thy, m); !ok || name != "" || e != api.OK {
			t.Fatal("the model", seed, ok, name, e)
		}
		g.thys = []api.Theory{thy}
		for range 40 {
			g.step()
		}
		for i, x := range g.results {
			if !x.Is() || len(x.Oracles()) > 0 {
				continue
			}
			asked++
			ok, a, e := model.Holds(thy, m, x.Hyps(), x.Prop())
			switch {
			case e == api.ErrFuel || e == api.ErrLarge:
				open++
			case !ok || e != api.OK || len(a.Types) > 0 || len(a.Values) > 0:
				t.Fatal("a theorem that does not hold", seed, i, e, a, must(term.Text(x.Prop())))
			case g.script[i].Rule != api.Reflexive && g.script[i].Rule != api.Assume:
				held++
			}
		}
	}
	t.Log(asked, held, open)
	if held < 300 {
		t.Error("too few theorems", asked, held, open)
	}
}

// What is not true does not hold, with an assignment that shows it.
func TestWhatDoesNotHold(t *testing.T) {
	shown := 0
	for seed := range int64(80) {
		r := rand.New(rand.NewSource(seed))
		thy, m := world(r)
		g := &maker{r: r, thys: []api.Theory{thy}, base: []api.Type{con("t"), boolean()}, consts: thy.Consts}
		for range 20 {
			p := g.term(prop(), nil, 4)
			ok, a, e := model.Holds(thy, m, nil, p)
			if e != api.OK || ok {
				continue
			}
			shown++
			if n, e := model.Evaluate(thy, m, p, a); e != api.OK || n != 0 {
				t.Fatal("the assignment", seed, n, e)
			}
			x, e := kernel.Oracle(thy, "trust", p)
			if e != api.OK || !slices.Equal(x.Oracles(), []string{"trust"}) {
				t.Fatal(seed, e)
			}
		}
	}
	if shown < 200 {
		t.Error("too few", shown)
	}
}
