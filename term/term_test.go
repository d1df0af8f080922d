package term_test

import (
	"fmt"
	"math"
	"slices"
	"strings"
	"testing"

	"triforium/api"
	"triforium/sort"
	"triforium/term"
	"triforium/types"
)

func con(name string, args ...api.Type) api.Type {
	return api.Type{Op: api.TCon, Name: name, Args: args}
}

func tvar(name string, index int, sort ...string) api.Type {
	return api.Type{Op: api.TVar, Name: name, Index: index, Sort: sort}
}

func tfree(name string, sort ...string) api.Type {
	return api.Type{Op: api.TFree, Name: name, Sort: sort}
}

func fun(l ...api.Type) api.Type {
	t := l[len(l)-1]
	for i := len(l) - 2; i >= 0; i-- {
		t = types.Fun(l[i], t)
	}
	return t
}

func nat() api.Type  { return con("nat") }
func prop() api.Type { return types.Prop() }

func constant(name string, t api.Type) api.Term {
	return api.Term{Op: api.Const, Name: name, Type: t}
}
func free(name string, t api.Type) api.Term { return api.Term{Op: api.Free, Name: name, Type: t} }
func schematic(name string, n int, t api.Type) api.Term {
	return api.Term{Op: api.Var, Name: name, Num: n, Type: t}
}
func bound(n int) api.Term { return api.Term{Op: api.Bound, Num: n} }
func abs(t api.Type, body api.Term) api.Term {
	return api.Term{Op: api.Abs, Name: "x", Type: t, Kids: []api.Term{body}}
}
func app(f api.Term, l ...api.Term) api.Term {
	for _, a := range l {
		f = api.Term{Op: api.App, Kids: []api.Term{f, a}}
	}
	return f
}

// signature has the class c, of which nat is, and the constants zero, suc, add, id (of any type) and least (of the class c).
func signature() api.Theory {
	return api.Theory{
		Name:    "T",
		Classes: []api.Class{{Name: "c"}, {Name: "d", Supers: []string{"c"}}},
		Types:   []api.TypeDecl{{Name: "fun", Arity: 2}, {Name: "prop"}, {Name: "nat"}, {Name: "list", Arity: 1}},
		Arities: []api.Arity{{Type: "nat", Class: "c"}},
		Consts: []api.ConstDecl{
			{Name: "zero", Type: nat()}, {Name: "suc", Type: fun(nat(), nat())}, {Name: "add", Type: fun(nat(), nat(), nat())},
			{Name: "id", Type: fun(tvar("a", 0), tvar("a", 0))}, {Name: "least", Type: tvar("a", 0, "c")},
		},
	}
}

func suc() api.Term { return constant("suc", fun(nat(), nat())) }
func add() api.Term { return constant("add", fun(nat(), nat(), nat())) }

// chain has a depth of n.
func chain(n int, inner api.Term) api.Term {
	for range n - 1 {
		inner = app(suc(), inner)
	}
	return inner
}

// bushy has n nodes, for an odd n, and a small depth.
func bushy(n int, leaf api.Term) api.Term {
	if n <= 2 {
		return leaf
	}
	left := (n - 1) / 2
	if left%2 == 0 {
		left--
	}
	return app(bushy(left, leaf), bushy(n-1-left, leaf))
}

func same(t *testing.T, what string, got, want api.Term) {
	t.Helper()
	if !term.Equal(got, want) {
		s, _ := term.Text(got)
		u, _ := term.Text(want)
		t.Errorf("%s: %v (%s), want %v (%s)", what, got, s, want, u)
	}
}

func TestSize(t *testing.T) {
	large := con("list", con("list", nat()))
	for i, x := range []struct {
		t            api.Term
		nodes, depth int
	}{
		{api.Term{}, 1, 1}, {free("x", large), 1, 1}, {abs(large, bound(0)), 2, 2}, {app(suc(), app(suc(), bound(7))), 5, 3}, {chain(1000, bound(0)), 1999, 1000},
		{api.Term{Op: api.Bound, Kids: []api.Term{bound(0), {Op: -4, Kids: []api.Term{bound(1)}}}}, 4, 3}, {bushy(1001, bound(0)), 1001, 10},
	} {
		if n, d := term.Size(x.t); n != x.nodes || d != x.depth {
			t.Error(i, n, d)
		}
	}
}

func TestCheckForm(t *testing.T) {
	thy, long := signature(), strings.Repeat("a", 41)
	bad, kids := api.Type{}, []api.Term{bound(0)}
	for i, x := range []struct {
		t api.Term
		e api.Errno
	}{
		{api.Term{}, api.ErrForm}, {api.Term{Op: 7}, api.ErrForm}, {api.Term{Op: -1}, api.ErrForm},
		// fields that a kind does not name
		{api.Term{Op: api.Const, Name: "zero", Type: nat(), Num: 1}, api.ErrForm}, {api.Term{Op: api.Const, Name: "zero", Type: nat(), Kids: kids}, api.ErrForm},
		{api.Term{Op: api.Free, Name: "x", Type: nat(), Num: 1}, api.ErrForm}, {api.Term{Op: api.Free, Name: "x", Type: nat(), Kids: kids}, api.ErrForm},
		{api.Term{Op: api.Var, Name: "x", Num: -1, Type: nat(), Kids: kids}, api.ErrForm}, {api.Term{Op: api.Bound, Name: "x"}, api.ErrForm}, {api.Term{Op: api.Bound, Type: nat()}, api.ErrForm},
		{api.Term{Op: api.Bound, Kids: kids}, api.ErrForm}, {api.Term{Op: api.Abs, Num: 1, Type: nat(), Kids: kids}, api.ErrForm},
		{api.Term{Op: api.App, Name: "x", Kids: []api.Term{suc(), suc()}}, api.ErrForm}, {api.Term{Op: api.App, Num: 1, Kids: []api.Term{suc(), suc()}}, api.ErrForm},
		{api.Term{Op: api.App, Type: api.Type{Op: 1}, Kids: []api.Term{suc(), suc()}}, api.ErrForm}, {api.Term{Op: api.App, Type: api.Type{Name: "a"}, Kids: []api.Term{suc(), suc()}}, api.ErrForm},
		{api.Term{Op: api.App, Type: api.Type{Index: 1}, Kids: []api.Term{suc(), suc()}}, api.ErrForm}, {api.Term{Op: api.App, Type: api.Type{Sort: []string{"c"}}, Kids: []api.Term{suc(), suc()}}, api.ErrForm},
		{api.Term{Op: api.App, Type: api.Type{Args: []api.Type{nat()}}, Kids: []api.Term{suc(), suc()}}, api.ErrForm},
		{api.Term{Op: api.App, Type: api.Type{Sort: []string{}, Args: []api.Type{}}, Kids: []api.Term{suc(), constant("zero", nat())}}, api.OK},
		// names
		{free("", nat()), api.ErrForm}, {free("1", nat()), api.ErrForm}, {constant("", bad), api.ErrForm}, {schematic("1", -1, nat()), api.ErrForm}, {free(long, nat()), api.ErrForm},
		{api.Term{Op: api.Abs, Type: nat(), Kids: kids}, api.OK}, {api.Term{Op: api.Abs, Name: "1", Type: nat(), Kids: kids}, api.ErrForm},
		// numbers
		{schematic("x", -1, bad), api.ErrRange}, {schematic("x", 1000001, nat()), api.ErrRange}, {schematic("x", 1000000, nat()), api.OK}, {schematic("x", math.MinInt, nat()), api.ErrRange},
		{bound(0), term.ErrLoose}, {bound(-1), term.ErrLoose}, {abs(nat(), bound(1)), term.ErrLoose}, {abs(nat(), bound(-1)), term.ErrLoose}, {abs(nat(), abs(nat(), bound(1))), api.OK},
		{abs(nat(), bound(math.MaxInt)), term.ErrLoose}, {app(abs(nat(), bound(0)), bound(0)), term.ErrLoose},
		// kids
		{api.Term{Op: api.Abs, Name: "x", Type: bad}, api.ErrForm}, {api.Term{Op: api.Abs, Type: tvar("a", -1), Kids: append(kids, kids...)}, api.ErrForm}, {api.Term{Op: api.App}, api.ErrForm},
		{api.Term{Op: api.App, Kids: []api.Term{suc()}}, api.ErrForm}, {api.Term{Op: api.App, Kids: []api.Term{bound(0), suc(), suc()}}, api.ErrForm},
		// types
		{free("x", bad), api.ErrForm}, {abs(tvar("a", -1), bound(0)), api.ErrRange}, {free("x", tfree("a", "c", "c")), api.ErrForm},
		// a node ahead of its Kids, from the left
		{app(bound(0), free("1", nat())), term.ErrLoose}, {app(free("1", nat()), bound(0)), api.ErrForm}, {abs(tvar("a", -1), bound(1)), api.ErrRange},
		// the form of all nodes ahead of the theory
		{app(constant("none", nat()), bound(0)), term.ErrLoose}, {app(free("x", con("set")), bound(0)), term.ErrLoose},
	} {
		if u, e := term.Check(thy, x.t); e != x.e || e != api.OK && u.Op != 0 {
			t.Error(i, e, x.e, x.t)
		}
	}
}

func TestCheckLimits(t *testing.T) {
	thy, zero := signature(), constant("zero", nat())
	shared := free("x", nat())
	for range 40 {
		shared = app(shared, shared)
	}
	for i, x := range []struct {
		t api.Term
		e api.Errno
	}{
		{chain(500, zero), api.OK}, {chain(501, zero), api.ErrDepth}, {chain(501, bound(0)), api.ErrDepth}, {chain(10001, zero), api.ErrCount}, {shared, api.ErrCount},
		{app(add(), bushy(9997, zero)), api.ErrType}, {bushy(19999, bound(0)), term.ErrLoose}, {bushy(20001, bound(0)), api.ErrCount}, {abs(nat(), bushy(19999, zero)), api.ErrType},
		{abs(nat(), abs(nat(), bushy(19999, zero))), api.ErrCount},
	} {
		if _, e := term.Check(thy, x.t); e != x.e {
			t.Error(i, e, x.e)
		}
		if _, e := term.Text(x.t); e != x.e && x.e != api.ErrType && e != api.ErrLarge {
			t.Error(i, "Text", e)
		}
	}
	deep := nat()
	for range 499 {
		deep = con("list", deep)
	}
	if u, e := term.Check(thy, abs(deep, bound(0))); e != api.OK || !types.Equal(u, fun(deep, deep)) {
		t.Error("the type of a term may be deeper", e)
	}
	if _, e := term.Check(thy, abs(con("list", deep), bound(0))); e != api.ErrDepth {
		t.Error("500 lists", e)
	}
}

func TestCheckTheory(t *testing.T) {
	thy, a, zero := signature(), tvar("a", 0), constant("zero", nat())
	for i, x := range []struct {
		t    api.Term
		want api.Type
		e    api.Errno
	}{
		{app(suc(), zero), nat(), api.OK}, {abs(nat(), app(suc(), bound(0))), fun(nat(), nat()), api.OK}, {abs(a, abs(prop(), bound(1))), fun(a, prop(), a), api.OK},
		{app(abs(nat(), abs(prop(), bound(0))), zero), fun(prop(), prop()), api.OK}, {app(add(), zero), fun(nat(), nat()), api.OK}, {free("x", tfree("a", "d")), tfree("a", "d"), api.OK},
		{constant("id", fun(fun(a, nat()), fun(a, nat()))), fun(fun(a, nat()), a, nat()), api.OK}, {constant("least", nat()), nat(), api.OK}, {constant("least", tvar("b", 3, "d")), tvar("b", 3, "d"), api.OK},
		// types
		{free("x", con("set")), nat(), api.ErrMissing}, {free("x", con("list")), nat(), api.ErrCount}, {free("x", tfree("a", "k")), nat(), api.ErrMissing}, {abs(tvar("a", 0, "c", "d"), bound(0)), nat(), api.ErrSort},
		{free("x", fun(a, tvar("a", 0, "c"))), nat(), api.ErrSort}, {constant("none", con("list")), nat(), api.ErrCount},
		// constants
		{constant("none", nat()), nat(), api.ErrMissing}, {constant("suc", nat()), nat(), api.ErrType}, {constant("id", fun(nat(), prop())), nat(), api.ErrType}, {constant("least", prop()), nat(), api.ErrType},
		{constant("least", tfree("a")), nat(), api.ErrType}, {constant("zero", a), nat(), api.ErrType},
		// node by node
		{app(constant("none", nat()), constant("suc", nat())), nat(), api.ErrMissing}, {app(constant("suc", nat()), constant("none", nat())), nat(), api.ErrType},
		{app(free("x", con("list")), constant("none", nat())), nat(), api.ErrCount}, {app(zero, free("x", con("set"))), nat(), api.ErrMissing},
		// variables: sorts first
		{app(free("x", tfree("a")), free("x", tfree("a", "c"))), nat(), api.ErrSort}, {app(free("x", a), free("y", tvar("a", 0, "c"))), nat(), api.ErrSort},
		{app(app(free("x", nat()), free("x", prop())), app(free("y", a), free("z", tvar("a", 0, "c")))), nat(), api.ErrSort},
		{app(free("x", fun(nat(), nat())), free("x", nat())), nat(), api.ErrType}, {app(schematic("x", 1, fun(nat(), nat())), schematic("x", 1, nat())), nat(), api.ErrType},
		{app(schematic("x", 1, fun(nat(), nat())), schematic("x", 0, nat())), nat(), api.OK}, {app(free("x", fun(nat(), nat())), schematic("x", 0, nat())), nat(), api.OK},
		{abs(nat(), app(free("x", fun(nat(), nat())), bound(0))), fun(nat(), nat()), api.OK},
		// applications
		{app(zero, zero), nat(), api.ErrType}, {app(suc(), free("A", prop())), nat(), api.ErrType}, {app(suc(), free("x", tfree("nat"))), nat(), api.ErrType}, {app(add(), zero, zero, zero), nat(), api.ErrType},
		{abs(nat(), app(suc(), abs(nat(), bound(1)))), nat(), api.ErrType}, {app(free("f", con("list", nat())), zero), nat(), api.ErrType},
	} {
		u, e := term.Check(thy, x.t)
		if e != x.e || e == api.OK && !types.Equal(u, x.want) || e != api.OK && u.Op != 0 {
			t.Error(i, u, e, x.e)
		}
	}
}

func TestCheckConstants(t *testing.T) {
	x := bound(0) // its error comes behind those of constants
	addConst := func(l ...api.ConstDecl) func(*api.Theory) {
		return func(t *api.Theory) { t.Consts = append(t.Consts, l...) }
	}
	for i, c := range []struct {
		change func(*api.Theory)
		e      api.Errno
	}{
		{func(t *api.Theory) {}, term.ErrLoose},
		{addConst(api.ConstDecl{Name: "1", Type: con("set")}), api.ErrForm}, {addConst(api.ConstDecl{Name: "zero", Type: con("set")}), api.ErrDuplicate}, {addConst(api.ConstDecl{Name: "k", Type: con("set")}), api.ErrMissing},
		{addConst(api.ConstDecl{Name: "k", Type: con("list")}), api.ErrCount}, {addConst(api.ConstDecl{Name: "k", Type: fun(tvar("a", 0), tvar("a", 0, "c"))}), api.ErrSort},
		{addConst(api.ConstDecl{Name: "k", Type: tvar("a", 1)}), api.ErrForm}, {addConst(api.ConstDecl{Name: "k", Type: fun(nat(), tfree("a"))}), api.ErrForm},
		{addConst(api.ConstDecl{Name: "k", Type: tvar("a", -1)}), api.ErrRange},
		{addConst(api.ConstDecl{Name: "k", Type: con("set")}, api.ConstDecl{Name: "k", Type: con("list")}), api.ErrMissing},
		{func(t *api.Theory) { t.Classes[0].Name = "1"; t.Consts[0].Name = "1" }, sort.ErrName},
		{addConst(make([]api.ConstDecl, 296)...), api.ErrCount}, {addConst(make([]api.ConstDecl, 295)...), api.ErrForm},
	} {
		thy := signature()
		c.change(&thy)
		if _, e := term.Check(thy, x); e != c.e {
			t.Error(i, e, c.e)
		}
	}
	thy := signature()
	for i := range 295 {
		thy.Consts = append(thy.Consts, api.ConstDecl{Name: fmt.Sprint("k", i), Type: nat()})
	}
	if u, e := term.Check(thy, constant("k294", nat())); e != api.OK || !types.Equal(u, nat()) {
		t.Error("300 constants", e)
	}
	if e := sort.Check(thy); e != api.OK {
		t.Error(e)
	}
}

func TestTypeOf(t *testing.T) {
	x := con("anything", tfree("a", "k"), tvar("a", 0), tvar("a", 0, "k"))
	for i, c := range []struct {
		t    api.Term
		want api.Type
		e    api.Errno
	}{
		{constant("none", x), x, api.OK}, {abs(x, abs(nat(), bound(1))), fun(x, nat(), x), api.OK}, {app(free("x", fun(x, nat())), free("x", x)), nat(), api.OK},
		{app(abs(x, bound(0)), free("y", x)), x, api.OK}, {schematic("x", 0, con("list")), con("list"), api.OK},
		{app(free("x", fun(x, nat())), free("x", nat())), nat(), api.ErrType}, {app(free("x", x), free("x", x)), nat(), api.ErrType}, {app(free("x", con("fun", x)), free("x", x)), nat(), api.ErrType},
		{app(free("x", con("pair", x, x)), free("x", x)), nat(), api.ErrType},
		{bound(0), nat(), term.ErrLoose}, {api.Term{}, nat(), api.ErrForm}, {schematic("x", -1, nat()), nat(), api.ErrRange}, {chain(501, bound(0)), nat(), api.ErrDepth}, {chain(10001, bound(0)), nat(), api.ErrCount},
		{app(app(suc(), suc()), bound(0)), nat(), term.ErrLoose}, {free("x", api.Type{}), nat(), api.ErrForm},
	} {
		u, e := term.TypeOf(c.t)
		if e != c.e || e == api.OK && !types.Equal(u, c.want) || e != api.OK && u.Op != 0 {
			t.Error(i, u, e, c.e)
		}
	}
}

func TestOrder(t *testing.T) {
	named := abs(nat(), bound(0))
	named.Name = "other"
	if !term.Equal(named, abs(nat(), bound(0))) || term.Compare(app(named, suc()), app(abs(nat(), bound(0)), suc())) != 0 {
		t.Error("names of abstractions play no part")
	}
	// each one is ahead of those behind it
	l := []api.Term{
		{}, constant("a", nat()), constant("a", prop()), {Op: api.Const, Name: "a", Num: 1}, constant("b", con("a")), free("a", nat()), free("aa", nat()), {Op: api.Free, Name: "b", Kids: []api.Term{{}}},
		schematic("a", -1, prop()), schematic("a", 0, nat()), schematic("a", 0, prop()), schematic("a", 2, nat()), schematic("a", 10, nat()), schematic("b", 0, nat()),
		bound(-1), bound(0), bound(3), abs(nat(), bound(0)), abs(nat(), bound(1)), abs(prop(), bound(0)), {Op: api.App}, {Op: api.App, Kids: []api.Term{suc()}}, app(suc(), suc()), app(suc(), bound(0)), app(bound(0), suc()), {Op: 7},
	}
	for i, a := range l {
		for j, b := range l {
			want := 0
			if i < j {
				want = -1
			} else if i > j {
				want = 1
			}
			if c := term.Compare(a, b); c != want || term.Equal(a, b) != (want == 0) {
				t.Error(i, j, c)
			}
		}
	}
	if !term.Equal(api.Term{Op: api.Bound, Kids: []api.Term{}}, bound(0)) {
		t.Error("nil and empty")
	}
}

func TestApply(t *testing.T) {
	a, x := tvar("a", 0), schematic("x", 0, nat())
	i := api.Inst{
		Types: []api.TypeBind{{Name: "a", To: con("list", a)}, {Name: "a", To: prop()}},
		Terms: []api.TermBind{{Name: "x", To: app(bound(0), free("y", a))}, {Name: "x", To: suc()}, {Name: "z", Index: 2, To: abs(a, app(bound(0), bound(1)))}},
	}
	y := free("y", a) // its type stays: types are replaced ahead of terms
	same(t, "bind", term.Apply(i, x), app(bound(0), y))
	same(t, "type of the variable plays no part", term.Apply(i, schematic("x", 0, prop())), app(bound(0), y))
	same(t, "lifted", term.Apply(i, abs(a, abs(nat(), app(x, bound(2))))), abs(con("list", a), abs(nat(), app(app(bound(2), y), bound(2)))))
	same(t, "loose ones only", term.Apply(i, abs(nat(), schematic("z", 2, nat()))), abs(nat(), abs(a, app(bound(0), bound(2)))))
	same(t, "others", term.Apply(i, app(schematic("x", 1, a), free("x", a))), app(schematic("x", 1, con("list", a)), free("x", con("list", a))))
	same(t, "constant", term.Apply(i, constant("x", fun(a, a))), constant("x", fun(con("list", a), con("list", a))))
	odd := api.Term{Op: api.Const, Kids: []api.Term{x, {Op: 9, Type: a, Kids: []api.Term{x}}}}
	same(t, "all Kids", term.Apply(i, odd), api.Term{Op: api.Const, Kids: []api.Term{app(bound(0), y), {Op: 9, Type: con("list", a), Kids: []api.Term{app(bound(0), y)}}}})
	same(t, "nothing", term.Apply(api.Inst{}, odd), odd)
}

func TestBindAndPut(t *testing.T) {
	x, y := free("x", nat()), free("y", nat())
	same(t, "Bind", term.Bind(x, app(x, abs(nat(), app(x, bound(0), bound(1), y)))), app(bound(0), abs(nat(), app(bound(1), bound(0), bound(2), y))))
	same(t, "another type", term.Bind(x, free("x", prop())), free("x", prop()))
	same(t, "a Var", term.Bind(x, schematic("x", 0, nat())), schematic("x", 0, nat()))
	same(t, "no Free", term.Bind(suc(), app(suc(), bound(3))), app(suc(), bound(4)))
	same(t, "Put", term.Put(app(bound(0), abs(nat(), app(bound(1), bound(0), bound(3)))), y), app(y, abs(nat(), app(y, bound(0), bound(2)))))
	same(t, "lifted", term.Put(abs(nat(), abs(nat(), app(bound(2), bound(3)))), app(bound(0), abs(nat(), bound(0)))), abs(nat(), abs(nat(), app(app(bound(2), abs(nat(), bound(0))), bound(2)))))
	same(t, "no Bound", term.Put(x, y), x)
	odd := func(a, b api.Term) api.Term { return api.Term{Op: api.Free, Kids: []api.Term{a, b}} }
	same(t, "all Kids", term.Put(odd(bound(0), bound(1)), y), odd(y, bound(0)))
	same(t, "all Kids", term.Bind(x, odd(x, bound(1))), odd(bound(0), bound(2)))
	same(t, "Lift", term.Lift(app(bound(0), abs(nat(), app(bound(0), bound(1), bound(5)))), 3), app(bound(3), abs(nat(), app(bound(0), bound(4), bound(8)))))
	same(t, "Lift by less", term.Lift(abs(nat(), bound(3)), -2), abs(nat(), bound(1)))
	same(t, "Lift by none", term.Lift(odd(bound(3), x), 0), odd(bound(3), x))
	for i, c := range []struct {
		t    api.Term
		want bool
	}{
		{bound(0), false}, {abs(nat(), bound(0)), true}, {abs(nat(), bound(1)), false}, {abs(nat(), abs(nat(), app(bound(1), bound(0)))), true}, {app(abs(nat(), bound(0)), bound(0)), false},
		{x, true}, {odd(x, bound(0)), false}, {api.Term{Op: api.Abs, Kids: []api.Term{bound(0), bound(1)}}, false}, {bound(math.MaxInt), false},
	} {
		if term.Closed(c.t) != c.want {
			t.Error(i)
		}
	}
}

func TestBeta(t *testing.T) {
	x := free("x", nat())
	twice := abs(nat(), app(suc(), app(bound(0), bound(0), bound(1))))
	b, ok := term.Beta(app(twice, x))
	if !ok {
		t.Error("a redex")
	}
	same(t, "Beta", b, app(suc(), app(x, x, bound(0))))
	for i, u := range []api.Term{x, twice, app(suc(), app(twice, x)), app(app(twice, x), x), {Op: api.App, Kids: []api.Term{twice}}, {Op: api.App, Kids: []api.Term{twice, x, x}},
		app(api.Term{Op: api.Abs}, x), app(api.Term{Op: api.Abs, Kids: []api.Term{x, x}}, x), {Op: api.App}, {}} {
		if b, ok := term.Beta(u); ok || b.Op != 0 {
			t.Error(i, b)
		}
	}
}

// No term on the way may be larger than the limits: the first one, those between, and the last one.
func TestNormWithin(t *testing.T) {
	x := free("x", nat())
	k := func(n int, inner api.Term) api.Term { return app(abs(nat(), chain(n, bound(0))), inner) } // 2n + 2 nodes
	for i, c := range []struct {
		t                  api.Term
		fuel, nodes, depth int
		want               api.Term
		e                  api.Errno
	}{
		{chain(5, x), 0, 9, 5, chain(5, x), api.OK}, {chain(5, x), 0, 8, 5, x, api.ErrCount}, {chain(5, x), 0, 9, 4, x, api.ErrDepth}, {k(4, chain(3, x)), 1, 14, 6, chain(6, x), api.OK}, {k(4, chain(3, x)), 0, 14, 6, x, api.ErrFuel},
		{k(4, chain(3, x)), 1, 12, 6, x, api.ErrCount}, {k(4, chain(5, x)), 1, 20, 7, x, api.ErrDepth}, {k(4, chain(5, x)), 1, 20, 8, chain(8, x), api.OK},
		// a large term between two small ones
		{app(abs(nat(), app(abs(nat(), x), app(bound(0), bound(0)))), chain(10, x)), 2, 44, 20, x, api.OK}, {app(abs(nat(), app(abs(nat(), x), app(bound(0), bound(0)))), chain(10, x)), 2, 41, 20, x, api.ErrCount},
	} {
		r, e := term.NormWithin(c.t, c.fuel, c.nodes, c.depth)
		if e != c.e || e == api.OK && !term.Equal(r, c.want) || e != api.OK && !term.Equal(r, api.Term{}) {
			t.Error(i, e)
		}
	}
}

func TestNorm(t *testing.T) {
	x, y := free("x", nat()), free("y", nat())
	first := abs(nat(), abs(nat(), bound(1)))
	self := abs(nat(), app(bound(0), bound(0)))
	forever := app(self, self)
	more := abs(nat(), app(bound(0), bound(0), bound(0)))
	for i, c := range []struct {
		t    api.Term
		fuel int
		want api.Term
		e    api.Errno
	}{
		{x, 0, x, api.OK}, {x, -1, x, api.OK}, {x, math.MinInt, x, api.OK}, {app(first, x), 1, abs(nat(), x), api.OK}, {app(first, x), 0, x, api.ErrFuel}, {app(first, x), -1, x, api.ErrFuel},
		{app(first, x, y), 2, x, api.OK}, {app(first, x, y), 1, x, api.ErrFuel}, {app(suc(), abs(nat(), app(abs(nat(), bound(1)), x))), 1, app(suc(), abs(nat(), bound(0))), api.OK},
		// the outermost step leaves an argument out that has no normal form
		{app(first, x, forever), 2, x, api.OK}, {app(abs(nat(), x), forever), 1, x, api.OK}, {forever, 1000, x, api.ErrFuel}, {app(x, forever), 10, x, api.ErrFuel},
		// the leftmost one: two steps for the function, then one for each argument
		{app(first, app(first, x), app(first, y)), 3, abs(nat(), x), api.OK}, {app(first, app(first, x), app(first, y)), 2, x, api.ErrFuel},
		{app(y, app(first, x), app(first, y)), 2, app(y, abs(nat(), x), abs(nat(), y)), api.OK}, {app(y, app(first, x), forever), 1, x, api.ErrFuel},
		{bound(3), 0, bound(3), api.OK}, {app(abs(nat(), bound(4)), x), 1, bound(3), api.OK}, {abs(nat(), app(abs(nat(), abs(nat(), app(bound(1), bound(2)))), bound(0))), 1, abs(nat(), abs(nat(), app(bound(1), bound(1)))), api.OK},
		// sizes
		{chain(501, x), 0, x, api.ErrDepth}, {chain(10001, x), 0, x, api.ErrCount}, {bushy(19999, x), 0, bushy(19999, x), api.OK}, {bushy(20001, x), 0, x, api.ErrCount},
		{app(more, more), 100000, x, api.ErrDepth}, {app(abs(nat(), app(bound(0), bound(0))), bushy(9999, x)), 1, app(bushy(9999, x), bushy(9999, x)), api.OK},
		{app(abs(nat(), app(bound(0), bound(0))), bushy(10001, x)), 1, x, api.ErrCount}, {app(abs(nat(), app(bound(0), bound(0))), bushy(10001, x)), 0, x, api.ErrFuel},
		{app(abs(nat(), chain(300, bound(0))), chain(300, x)), 1, x, api.ErrDepth}, {app(abs(nat(), chain(300, bound(0))), chain(201, x)), 1, chain(500, x), api.OK},
		{app(abs(nat(), bushy(5001, bound(0))), bushy(5001, x)), 1, x, api.ErrCount},
		{app(abs(nat(), abs(nat(), app(bound(1), bound(1)))), bushy(9999, x)), 1, abs(nat(), app(bushy(9999, x), bushy(9999, x))), api.OK},
		{app(abs(nat(), abs(nat(), abs(nat(), app(bound(2), bound(2))))), bushy(9999, x)), 1, x, api.ErrCount},
		{app(abs(nat(), abs(nat(), app(bound(1), bound(1)))), app(abs(nat(), bound(0)), bushy(9995, x))), 2, abs(nat(), app(app(abs(nat(), bound(0)), bushy(9995, x)), app(abs(nat(), bound(0)), bushy(9995, x)))), api.ErrFuel},
		// a term that is not right
		{api.Term{Op: 9, Kids: []api.Term{app(first, x)}}, 1, api.Term{Op: 9, Kids: []api.Term{abs(nat(), x)}}, api.OK}, {api.Term{Op: api.App, Kids: []api.Term{first}}, 0, api.Term{Op: api.App, Kids: []api.Term{first}}, api.OK},
	} {
		n, e := term.Norm(c.t, c.fuel)
		if e != c.e || e == api.OK && !term.Equal(n, c.want) || e != api.OK && n.Op != 0 {
			t.Error(i, n, e, c.e)
		}
	}
}

func TestEta(t *testing.T) {
	f, x := free("f", fun(nat(), nat())), free("x", nat())
	for i, c := range []struct{ t, want api.Term }{
		{abs(nat(), app(f, bound(0))), f}, {abs(nat(), app(f, bound(1))), abs(nat(), app(f, bound(1)))}, {abs(nat(), app(f, x)), abs(nat(), app(f, x))}, {abs(nat(), bound(0)), abs(nat(), bound(0))},
		{abs(nat(), app(bound(0), bound(0))), abs(nat(), app(bound(0), bound(0)))}, {abs(nat(), app(bound(2), bound(0))), bound(1)}, {abs(nat(), app(abs(nat(), bound(1)), bound(0))), abs(nat(), app(abs(nat(), bound(1)), bound(0)))},
		{abs(nat(), app(abs(nat(), app(bound(0), bound(2))), bound(0))), abs(nat(), app(bound(0), bound(1)))},
		{abs(nat(), abs(nat(), app(f, bound(1), bound(0)))), f}, {abs(nat(), abs(nat(), app(f, bound(0), bound(1)))), abs(nat(), abs(nat(), app(f, bound(0), bound(1))))},
		{abs(nat(), app(f, abs(nat(), app(bound(1), bound(0))))), f}, {app(suc(), abs(nat(), app(f, bound(0)))), app(suc(), f)},
		// the Kids first: what is inside vanishes, and with it the variable
		{abs(nat(), app(abs(nat(), app(f, bound(0))), bound(0))), f}, {x, x}, {api.Term{Op: api.Abs}, api.Term{Op: api.Abs}}, {abs(nat(), api.Term{Op: api.App, Kids: []api.Term{f}}), abs(nat(), api.Term{Op: api.App, Kids: []api.Term{f}})},
		{api.Term{Op: 9, Kids: []api.Term{abs(nat(), app(f, bound(0))), f}}, api.Term{Op: 9, Kids: []api.Term{f, f}}},
	} {
		if n := term.Eta(c.t); !term.Equal(n, c.want) {
			t.Error(i, n)
		}
	}
}

func TestVariables(t *testing.T) {
	a, b := tvar("a", 1), tfree("b")
	x := app(free("x", a), abs(b, app(free("x", b), schematic("x", 3, tvar("a", 7)))), free("x", a), schematic("x", 3, tvar("a", 7)), schematic("x", 2, nat()))
	odd := api.Term{Op: api.Free, Name: "k", Type: con("list", tvar("z", 9)), Kids: []api.Term{free("y", nat()), schematic("v", 12, nat())}}
	check := func(i int, got []api.Term, want ...api.Term) {
		t.Helper()
		if !slices.EqualFunc(got, want, term.Equal) {
			t.Error(i, got)
		}
	}
	check(0, term.Frees(x), free("x", a), free("x", b))
	check(1, term.Vars(x), schematic("x", 3, tvar("a", 7)), schematic("x", 2, nat()))
	check(2, term.Frees(odd), free("k", odd.Type), free("y", nat()))
	check(3, term.Vars(odd), schematic("v", 12, nat()))
	check(4, term.Frees(suc()))
	check(5, term.Vars(bound(0)))
	if l := term.TypeVariables(app(x, odd, free("y", tfree("b", "c")))); !slices.EqualFunc(l, []api.Type{a, b, tvar("a", 7), tvar("z", 9), tfree("b", "c")}, types.Equal) {
		t.Error(l)
	}
	// App has no Type in a right term, but any term's is walked
	if l := term.TypeVariables(api.Term{Op: api.App, Type: a, Kids: []api.Term{free("x", b)}}); len(l) != 2 || l[0].Op != api.TVar {
		t.Error(l)
	}
	for i, c := range []struct {
		t    api.Term
		want int
	}{
		{suc(), -1}, {bound(9), -1}, {x, 7}, {odd, 12}, {app(x, odd), 12}, {schematic("x", 0, nat()), 0}, {free("x", tvar("a", 0)), 0}, {schematic("x", 4, tvar("a", 5)), 5}, {schematic("x", 5, tvar("a", 4)), 5},
		{schematic("x", -7, nat()), -7}, {api.Term{Op: api.Free, Num: 5}, -1}, {free("x", tvar("a", -3)), -3},
	} {
		if n := term.MaxIndex(c.t); n != c.want {
			t.Error(i, n)
		}
	}
	same(t, "Raise", term.Raise(app(free("x", a), abs(tvar("b", 0), schematic("y", 2, b)), bound(4)), 5), app(free("x", tvar("a", 6)), abs(tvar("b", 5), schematic("y", 7, b)), bound(4)))
	same(t, "Raise by less", term.Raise(schematic("y", 2, a), -4), schematic("y", -2, tvar("a", -3)))
	same(t, "Raise of all Kids", term.Raise(api.Term{Op: api.Bound, Num: 1, Kids: []api.Term{schematic("y", 2, a)}}, 1), api.Term{Op: api.Bound, Num: 1, Kids: []api.Term{schematic("y", 3, tvar("a", 2))}})
}

func TestVariant(t *testing.T) {
	for i, c := range []struct {
		name  string
		names []string
		want  string
	}{
		{"a", nil, "a"}, {"a", []string{"b", "a_1"}, "a"}, {"a", []string{"a"}, "a_1"}, {"a", []string{"a_1", "a"}, "a_2"}, {"a", []string{"a", "a_2"}, "a_1"}, {"a_1", []string{"a_1", "a_1_1"}, "a_1_2"},
		{"", []string{""}, "_1"}, {"a", []string{"a", "a_01", "a_1", "a_2", "a_3", "a_4", "a_5", "a_6", "a_7", "a_8", "a_9"}, "a_10"}, {strings.Repeat("a", 40), []string{strings.Repeat("a", 40)}, strings.Repeat("a", 40) + "_1"},
	} {
		if s := term.Variant(c.name, c.names); s != c.want {
			t.Error(i, s)
		}
	}
}
