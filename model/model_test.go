package model_test

import (
	"fmt"
	"math"
	"slices"
	"strings"
	"testing"

	"triforium/api"
	"triforium/model"
	"triforium/term"
	"triforium/theory"
	"triforium/types"
)

func must[T any](x T, e api.Errno) T {
	if e != api.OK {
		panic(fmt.Sprint("error ", int(e)))
	}
	return x
}

func typ(s string) api.Type { return must(types.Read(s)) }

// read returns the term with a text, in which some constants are written by their names and a type for their variable: Equal<t>.
func read(s string) api.Term {
	for _, c := range []struct{ name, typ string }{
		{"imp", "fun(prop, fun(prop, prop))"}, {"all", "fun(fun(A, prop), prop)"}, {"eq", "fun(A, fun(A, prop))"}, {"Tr", "fun(bool, prop)"},
		{"Not", "fun(bool, bool)"}, {"And", "fun(bool, fun(bool, bool))"}, {"Or", "fun(bool, fun(bool, bool))"}, {"Implies", "fun(bool, fun(bool, bool))"},
		{"Equal", "fun(A, fun(A, bool))"}, {"All", "fun(fun(A, bool), bool)"}, {"Ex", "fun(fun(A, bool), bool)"}, {"The", "fun(fun(A, bool), A)"}, {"If", "fun(bool, fun(A, fun(A, A)))"},
	} {
		for {
			i := strings.Index(s, c.name+"<")
			if i < 0 {
				break
			}
			j := i + strings.Index(s[i:], ">")
			name := c.name
			if name == "Tr" {
				name = "Trueprop"
			}
			s = s[:i] + name + ":" + strings.ReplaceAll(c.typ, "A", s[i+len(c.name)+1:j]) + s[j+1:]
		}
	}
	t, e := term.Read(s)
	if e != api.OK {
		panic(fmt.Sprintf("%.100s: %d bytes, %d", s, len(s), int(e)))
	}
	return t
}

func fun(l ...string) api.Type {
	r := typ(l[len(l)-1])
	for i := len(l) - 2; i >= 0; i-- {
		r = types.Fun(typ(l[i]), r)
	}
	return r
}

// logic is a theory with the constants of HOL, a class, types with and without arguments, and constants for all kinds of meanings.
func logic() api.Theory {
	thy := must(theory.Extend(theory.Pure(), "Logic", api.Theory{
		Classes: []api.Class{{Name: "c"}},
		Types:   []api.TypeDecl{{Name: "bool"}, {Name: "t"}, {Name: "u"}, {Name: "pair", Arity: 2}, {Name: "opt", Arity: 1}, {Name: "bare"}},
		Arities: []api.Arity{{Type: "t", Class: "c"}, {Type: "pair", Class: "c", Sorts: [][]string{{"c"}, {}}}},
		Consts: []api.ConstDecl{
			{Name: "Trueprop", Type: fun("bool", "prop")}, {Name: "True", Type: typ("bool")}, {Name: "False", Type: typ("bool")}, {Name: "Not", Type: fun("bool", "bool")},
			{Name: "And", Type: fun("bool", "bool", "bool")}, {Name: "Or", Type: fun("bool", "bool", "bool")}, {Name: "Implies", Type: fun("bool", "bool", "bool")},
			{Name: "Equal", Type: fun("?a.0", "?a.0", "bool")}, {Name: "All", Type: fun("fun(?a.0, bool)", "bool")}, {Name: "Ex", Type: fun("fun(?a.0, bool)", "bool")},
			{Name: "The", Type: fun("fun(?a.0, bool)", "?a.0")}, {Name: "If", Type: fun("bool", "?a.0", "?a.0", "?a.0")},
			{Name: "mk", Type: fun("?x.0", "?y.0", "pair(?x.0, ?y.0)")}, {Name: "fst", Type: fun("pair(?x.0, ?y.0)", "?x.0")}, {Name: "snd", Type: fun("pair(?x.0, ?y.0)", "?y.0")}, {Name: "split", Type: fun("fun(?x.0, fun(?y.0, ?z.0))", "pair(?x.0, ?y.0)", "?z.0")},
			{Name: "none", Type: typ("opt(?a.0)")}, {Name: "some", Type: fun("?a.0", "opt(?a.0)")}, {Name: "case", Type: fun("?b.0", "fun(?a.0, ?b.0)", "opt(?a.0)", "?b.0")}, {Name: "get", Type: fun("opt(?a.0)", "?a.0")},
			{Name: "k", Type: typ("t")}, {Name: "f", Type: fun("t", "t")}, {Name: "loose", Type: typ("?a.0")}, {Name: "over", Type: fun("?a.0", "bool")},
		},
		Axioms:  []api.Axiom{{Name: "total", Prop: read("(Tr<> (All<t> (\\x:t . ((Equal<t> (f:fun(t, t) #0)) #0))))")}},
		Oracles: []string{"trust"},
	}))
	thy = must(theory.Define(thy, "Logic", "twice", read("(\\g:fun('a, 'a) . (\\x:'a . (#1 (#1 #0))))")))
	thy = must(theory.Define(thy, "Logic", "xor", read("(\\x:bool . (\\y:bool . (Not<> ((Equal<bool> #1) #0))))")))
	thy = must(theory.Define(thy, "Logic", "dark", read("(twice:fun(fun(bare, bare), fun(bare, bare)) (\\x:bare . #0))")))
	thy = must(theory.Overload(thy, "Logic", "over", typ("bool"), read("(\\x:bool . #0)")))
	return must(theory.Overload(thy, "Logic", "over", typ("pair('a, 'b)"), read("(\\x:pair('a, 'b) . ((And<> (over:fun('a, bool) (fst:fun(pair('a, 'b), 'a) #0))) (over:fun('b, bool) (snd:fun(pair('a, 'b), 'b) #0))))")))
}

// unit returns so many cases without fields.
func unit(n int) [][]api.Type { return make([][]api.Type, n) }

// world is a right model for logic: t has 2 elements, u has 3.
func world() model.Model {
	return model.Model{
		Carriers: []model.Carrier{
			{Name: "t", Cases: unit(2)}, {Name: "u", Cases: unit(3)}, {Name: "pair", Params: []string{"a", "b"}, Cases: [][]api.Type{{typ("'a"), typ("'b")}}},
			{Name: "opt", Params: []string{"a"}, Cases: [][]api.Type{{}, {typ("'a")}}},
		},
		Meanings: []model.Meaning{
			{Name: "mk", How: model.Maker, Type: "pair"}, {Name: "fst", How: model.Part, Type: "pair"}, {Name: "snd", How: model.Part, Type: "pair", Field: 1}, {Name: "split", How: model.Chooser, Type: "pair"},
			{Name: "none", How: model.Maker, Type: "opt"}, {Name: "some", How: model.Maker, Type: "opt", Case: 1}, {Name: "case", How: model.Chooser, Type: "opt"}, {Name: "get", How: model.Part, Type: "opt", Case: 1},
			{Name: "k", How: model.Table, Value: 1}, {Name: "f", How: model.Table, Value: 2},
		},
		Ground: []api.Type{typ("bool"), typ("u")},
	}
}

func TestKnown(t *testing.T) {
	want := "imp all eq protect Trueprop True False Not And Or Implies Equal All Ex The If"
	l := model.Known()
	if strings.Join(l, " ") != want {
		t.Error(l)
	}
	l[0] = "other"
	if model.Known()[0] != "imp" {
		t.Error("shared memory")
	}
}

func TestModelsAreRight(t *testing.T) {
	if e := model.Check(logic(), world()); e != api.OK {
		t.Fatal(e)
	}
	if e := model.Check(logic(), model.Model{}); e != api.OK {
		t.Error(e)
	}
	bad := logic()
	bad.Name = ""
	if e := model.Check(bad, model.Model{Carriers: []model.Carrier{{}}}); e != api.ErrTheory {
		t.Error(e)
	}
	if e := model.Check(api.Theory{}, world()); e != api.ErrTheory {
		t.Error(e)
	}
	ok := func(c ...model.Carrier) model.Model { return model.Model{Carriers: c} }
	u := model.Carrier{Name: "u", Cases: unit(3)}
	opt := func(params []string, cases ...[]api.Type) model.Model {
		return ok(u, model.Carrier{Name: "opt", Params: params, Cases: cases})
	}
	field := func(s string) model.Model { return opt([]string{"a"}, []api.Type{typ(s)}) }
	nodes := func(n int) string { return strings.Repeat("opt(", n-1) + "u" + strings.Repeat(")", n-1) }
	a := []string{"a"}
	for i, c := range []struct {
		m  model.Model
		ok bool
	}{
		{ok(u), true}, {ok(u, u), false}, {ok(model.Carrier{Name: "none", Cases: unit(1)}), false}, {ok(model.Carrier{Name: "fun", Params: []string{"a", "b"}, Cases: unit(1)}), false}, {ok(model.Carrier{Name: "prop", Cases: unit(2)}), false}, {ok(model.Carrier{Name: "bool", Cases: unit(2)}), false},
		{ok(model.Carrier{Name: "u", Cases: nil}), false}, {ok(model.Carrier{Name: "u", Cases: unit(20)}), true}, {ok(model.Carrier{Name: "u", Cases: unit(21)}), false}, {ok(model.Carrier{Name: "u", Params: a, Cases: unit(1)}), false},
		{opt(a, nil), true}, {opt(nil, nil), false}, {opt([]string{"a", "b"}, nil), false}, {opt([]string{""}, nil), false}, {opt([]string{"1"}, nil), false}, {opt([]string{strings.Repeat("a", 40)}, nil), true}, {opt([]string{strings.Repeat("a", 41)}, nil), false},
		{ok(model.Carrier{Name: "pair", Params: []string{"a", "b"}, Cases: unit(1)}), true}, {ok(model.Carrier{Name: "pair", Params: []string{"a", "a"}, Cases: unit(1)}), false},
		{opt(a, []api.Type{typ("'a"), typ("'a"), typ("'a"), typ("'a"), typ("'a"), typ("'a")}), true}, {opt(a, []api.Type{typ("'a"), typ("'a"), typ("'a"), typ("'a"), typ("'a"), typ("'a"), typ("'a")}), false},
		{field("'a"), true}, {field("'b"), false}, {field("'a{c}"), false}, {field("?a.0"), false}, {field("u"), true}, {field("t"), false}, {field("opt('a)"), false}, {field("fun('a, fun(bool, prop))"), true}, {field("fun('a)"), false}, {field("prop(u)"), false}, {field("u(u)"), false}, {field("bool(u)"), false}, {field("none"), false},
		{opt(a, []api.Type{{}}), false}, {opt(a, []api.Type{{Op: api.TCon, Name: "u", Index: 1}}), false}, {opt(a, []api.Type{{Op: api.TCon, Name: "u", Sort: []string{"c"}}}), false}, {opt(a, []api.Type{{Op: api.TFree, Name: "a", Index: 1}}), false}, {opt(a, []api.Type{{Op: api.TFree, Name: "a", Args: []api.Type{typ("u")}}}), false},
		{model.Model{Carriers: world().Carriers, Ground: []api.Type{typ("u"), typ("prop"), typ("fun(u, u)"), typ("opt(u)")}}, true}, {model.Model{Carriers: world().Carriers, Ground: slices.Repeat([]api.Type{typ("u")}, 4)}, true}, {model.Model{Carriers: world().Carriers, Ground: slices.Repeat([]api.Type{typ("u")}, 5)}, false},
		{model.Model{Ground: []api.Type{typ("u")}}, false}, {model.Model{Ground: []api.Type{typ("'a")}}, false}, {model.Model{Ground: []api.Type{typ("?a.0")}}, false}, {model.Model{Ground: []api.Type{{}}}, false},
		{model.Model{Ground: []api.Type{typ("fun(fun(fun(prop, prop), prop), prop)")}}, false}, {model.Model{Ground: []api.Type{fun("fun(prop, prop)", "prop", "bool")}}, true},
		{model.Model{Carriers: world().Carriers, Ground: []api.Type{typ(nodes(50))}}, true}, {model.Model{Carriers: world().Carriers, Ground: []api.Type{typ(nodes(51))}}, false},
		{ok(append(world().Carriers, model.Carrier{Name: "bare", Cases: [][]api.Type{{typ(nodes(50))}}})...), true}, {ok(append(world().Carriers, model.Carrier{Name: "bare", Cases: [][]api.Type{{typ(nodes(51))}}})...), false},
	} {
		want := api.OK
		if !c.ok {
			want = model.ErrModel
		}
		if e := model.Check(logic(), c.m); e != want {
			t.Error(i, e)
		}
	}
}

func TestMeaningsAreRight(t *testing.T) {
	with := func(l ...model.Meaning) model.Model {
		m := world()
		m.Meanings = l
		return m
	}
	table := func(name string, value int) model.Meaning {
		return model.Meaning{Name: name, How: model.Table, Value: value}
	}
	of := func(name string, how int, typ string, k, field int) model.Meaning {
		return model.Meaning{Name: name, How: how, Type: typ, Case: k, Field: field}
	}
	for i, c := range []struct {
		m  model.Model
		ok bool
	}{
		{with(table("k", 0)), true}, {with(table("k", 1)), true}, {with(table("k", 2)), false}, {with(table("k", -1)), false}, {with(table("k", math.MaxInt)), false}, {with(table("f", 3)), true}, {with(table("f", 4)), false}, {with(table("k", 0), table("k", 0)), false}, {with(table("k", 0), table("f", 0)), true},
		{with(table("none", 0)), false}, {with(table("missing", 0)), false}, {with(table("", 0)), false}, {with(table("True", 1)), false}, {with(table("imp", 0)), false}, {with(table("protect", 0)), false}, {with(table("xor", 0)), false}, {with(table("over", 0)), false},
		{with(model.Meaning{Name: "k"}), false}, {with(model.Meaning{Name: "k", How: 5}), false}, {with(model.Meaning{Name: "k", How: -1}), false}, {with(of("k", model.Table, "t", 0, 0)), false}, {with(of("k", model.Table, "", 1, 0)), false}, {with(of("k", model.Table, "", 0, 1)), false},
		{model.Model{Meanings: []model.Meaning{table("k", 0)}}, false},
		{with(of("mk", model.Maker, "pair", 0, 0)), true}, {with(of("mk", model.Maker, "opt", 0, 0)), false}, {with(of("mk", model.Maker, "", 0, 0)), false}, {with(of("mk", model.Maker, "pair", 1, 0)), false}, {with(of("mk", model.Maker, "pair", -1, 0)), false}, {with(of("mk", model.Maker, "pair", 0, 1)), false}, {with(model.Meaning{Name: "mk", How: model.Maker, Type: "pair", Value: 1}), false},
		{with(of("fst", model.Maker, "pair", 0, 0)), false}, {with(of("fst", model.Part, "pair", 0, 0)), true}, {with(of("fst", model.Part, "pair", 0, 1)), false}, {with(of("snd", model.Part, "pair", 0, 1)), true}, {with(of("snd", model.Part, "pair", 0, 2)), false}, {with(of("snd", model.Part, "pair", 0, -1)), false}, {with(of("get", model.Part, "opt", 1, 0)), true}, {with(of("get", model.Part, "opt", 0, 0)), false},
		{with(of("split", model.Chooser, "pair", 0, 0)), true}, {with(of("split", model.Chooser, "opt", 0, 0)), false}, {with(of("case", model.Chooser, "opt", 0, 0)), true}, {with(of("case", model.Chooser, "opt", 1, 0)), false}, {with(of("case", model.Chooser, "opt", 0, 1)), false}, {with(of("none", model.Maker, "opt", 0, 0)), true}, {with(of("some", model.Maker, "opt", 0, 0)), false}, {with(of("some", model.Maker, "opt", 1, 0)), true},
		{with(of("k", model.Maker, "t", 1, 0)), true}, {with(of("k", model.Maker, "u", 1, 0)), false}, {with(of("loose", model.Table, "", 0, 0)), false},
	} {
		want := api.OK
		if !c.ok {
			want = model.ErrModel
		}
		if e := model.Check(logic(), c.m); e != want {
			t.Error(i, e)
		}
	}
}

// The declared type of a constant with a meaning is the wanted one but for the names of variables: these stay different, and have no sort.
func TestTypesOfMeanings(t *testing.T) {
	for i, c := range []struct {
		typ api.Type
		how int
		ok  bool
	}{
		{fun("?p.0", "?q.0", "pair(?p.0, ?q.0)"), model.Maker, true}, {fun("?b.0", "?a.0", "pair(?b.0, ?a.0)"), model.Maker, true}, {fun("?p.0", "?p.0", "pair(?p.0, ?p.0)"), model.Maker, false}, {fun("?p.0", "?q.0", "pair(?q.0, ?p.0)"), model.Maker, false},
		{fun("?p.0{c}", "?q.0", "pair(?p.0{c}, ?q.0)"), model.Maker, false}, {fun("bool", "?q.0", "pair(bool, ?q.0)"), model.Maker, false}, {fun("?p.0", "pair(?p.0, ?q.0)"), model.Maker, false}, {fun("pair(?p.0, ?q.0)", "?p.0"), model.Part, true}, {fun("pair(?p.0, ?q.0)", "?q.0"), model.Part, false}, {fun("pair(?p.0, ?p.0)", "?p.0"), model.Part, false},
		{fun("fun(?p.0, fun(?q.0, ?r.0))", "pair(?p.0, ?q.0)", "?r.0"), model.Chooser, true}, {fun("fun(?p.0, fun(?q.0, ?q.0))", "pair(?p.0, ?q.0)", "?q.0"), model.Chooser, false}, {fun("fun(?p.0, fun(?q.0, bool))", "pair(?p.0, ?q.0)", "bool"), model.Chooser, false}, {fun("fun(?a.0, fun(?b.0, ?r.0))", "pair(?a.0, ?b.0)", "?r.0"), model.Chooser, true},
	} {
		thy := must(theory.Extend(logic(), "More", api.Theory{Consts: []api.ConstDecl{{Name: "new", Type: c.typ}}}))
		m := world()
		m.Meanings = []model.Meaning{{Name: "new", How: c.how, Type: "pair"}}
		want := api.OK
		if !c.ok {
			want = model.ErrModel
		}
		if e := model.Check(thy, m); e != want {
			t.Error(i, e)
		}
	}
	// a constant with the name of a known one, but another type, is not known
	thy := must(theory.Extend(theory.Pure(), "Other", api.Theory{Consts: []api.ConstDecl{{Name: "True", Type: typ("prop")}, {Name: "Equal", Type: fun("?b.0", "?b.0", "prop")}}}))
	m := model.Model{Meanings: []model.Meaning{{Name: "True", How: model.Table}}}
	if e := model.Check(thy, m); e != api.OK {
		t.Error(e)
	}
	if n, e := model.Evaluate(thy, m, read("True:prop"), model.Assign{}); n != 0 || e != api.OK {
		t.Error(n, e)
	}
	if _, e := model.Evaluate(thy, m, read("((Equal:fun(prop, fun(prop, prop)) True:prop) True:prop)"), model.Assign{}); e != model.ErrModel {
		t.Error(e)
	}
}

func TestSize(t *testing.T) {
	bad := logic()
	bad.Types = nil
	wrong := model.Model{Carriers: unitCarriers("u", 0)}
	for i, c := range []struct {
		s    string
		size int
		e    api.Errno
	}{
		{"prop", 2, 0}, {"bool", 2, 0}, {"t", 2, 0}, {"u", 3, 0}, {"fun(u, t)", 8, 0}, {"fun(t, u)", 9, 0}, {"pair(u, t)", 6, 0}, {"opt(u)", 4, 0}, {"opt(opt(t))", 4, 0}, {"fun(opt(pair(t, t)), bool)", 32, 0}, {"pair(fun(u, u), t)", 54, 0},
		{"fun(pair(u, opt(u)), bool)", 4096, 0}, {"fun(pair(u, opt(u)), u)", 0, api.ErrLarge}, {"fun(fun(u, u), prop)", 0, api.ErrLarge}, {"fun(fun(fun(u, u), fun(u, u)), fun(fun(u, u), fun(u, u)))", 0, api.ErrLarge}, {"pair(fun(u, u), pair(fun(u, u), fun(t, t)))", 2916, 0}, {"pair(fun(u, u), pair(fun(u, u), fun(u, t)))", 0, api.ErrLarge},
		{"none", 0, api.ErrMissing}, {"t(t)", 0, api.ErrCount}, {"'a{none}", 0, api.ErrMissing}, {"bare", 0, model.ErrModel}, {"fun('a, bare)", 0, model.ErrModel}, {"'a", 0, model.ErrFree}, {"?a.0", 0, model.ErrFree}, {"fun(fun(fun(u, u), fun(u, u)), 'a)", 0, model.ErrFree},
	} {
		n, e := model.Size(logic(), world(), typ(c.s))
		if n != c.size || e != c.e {
			t.Error(i, n, e)
		}
	}
	for i, c := range []struct {
		thy api.Theory
		m   model.Model
		t   api.Type
		e   api.Errno
	}{{bad, wrong, api.Type{}, api.ErrTheory}, {logic(), wrong, api.Type{}, model.ErrModel}, {logic(), world(), api.Type{}, api.ErrForm}} {
		_, e := model.Size(c.thy, c.m, c.t)
		_, _, f := model.Element(c.thy, c.m, c.t, -1)
		_, g := model.Make(c.thy, c.m, c.t, -1, nil)
		_, h := model.Call(c.thy, c.m, c.t, api.Type{}, -1, -1)
		if e != c.e || f != c.e || g != c.e || h != c.e {
			t.Error(i, e, f, g, h)
		}
	}
	// one element to the power of very many
	one := model.Model{Carriers: unitCarriers("t", 1)}
	big := "fun(prop, prop)"
	for range 4 {
		big = "fun(" + big + ", " + big + ")"
	}
	if n, e := model.Size(logic(), one, typ("fun("+big+", t)")); n != 1 || e != api.OK {
		t.Error(n, e)
	}
}

func unitCarriers(name string, n int) []model.Carrier {
	return []model.Carrier{{Name: name, Cases: unit(n)}}
}

func TestElementAndMake(t *testing.T) {
	thy, m := logic(), world()
	for i, c := range []struct {
		s      string
		n, k   int
		fields []int
		e      api.Errno
	}{
		{"pair(t, t)", 1, 0, []int{0, 1}, 0}, {"pair(t, t)", 2, 0, []int{1, 0}, 0}, {"pair(u, t)", 5, 0, []int{2, 1}, 0}, {"pair(t, u)", 5, 0, []int{1, 2}, 0}, {"opt(u)", 0, 0, nil, 0}, {"opt(u)", 1, 1, []int{0}, 0}, {"opt(u)", 3, 1, []int{2}, 0}, {"u", 2, 2, nil, 0},
		{"opt(u)", 4, 0, nil, api.ErrRange}, {"opt(u)", -1, 0, nil, api.ErrRange}, {"bool", 0, 0, nil, model.ErrModel}, {"prop", -1, 0, nil, model.ErrModel}, {"fun(t, t)", 99, 0, nil, model.ErrModel}, {"bare", 0, 0, nil, model.ErrModel}, {"'a", 0, 0, nil, model.ErrFree}, {"pair(fun(u, u), pair(fun(u, u), fun(u, t)))", 0, 0, nil, api.ErrLarge},
	} {
		k, fields, e := model.Element(thy, m, typ(c.s), c.n)
		if k != c.k || !slices.Equal(fields, c.fields) || e != c.e {
			t.Error(i, k, fields, e)
		}
		n, e := model.Make(thy, m, typ(c.s), c.k, c.fields)
		if e == api.OK && (n != c.n || c.e != api.OK) && c.e != api.ErrRange || e != c.e && c.e != api.ErrRange {
			t.Error(i, n, e)
		}
	}
	for i, c := range []struct {
		s      string
		k      int
		fields []int
	}{{"opt(u)", 2, nil}, {"opt(u)", -1, nil}, {"opt(u)", 1, nil}, {"opt(u)", 0, []int{0}}, {"opt(u)", 1, []int{3}}, {"opt(u)", 1, []int{-1}}, {"opt(u)", 1, []int{0, 0}}, {"pair(t, t)", 0, []int{0, 2}}, {"t", math.MaxInt, nil}} {
		if n, e := model.Make(thy, m, typ(c.s), c.k, c.fields); n != 0 || e != api.ErrRange {
			t.Error(i, n, e)
		}
	}
	// many cases with fields of their own
	m.Carriers = append(m.Carriers, model.Carrier{Name: "bare", Cases: [][]api.Type{{typ("u"), typ("t"), typ("u")}, {}, {typ("bool")}, {typ("opt(u)"), typ("fun(t, t)")}}})
	if n := must(model.Size(thy, m, typ("bare"))); n != 18+1+2+16 {
		t.Error(n)
	}
	for n := range 37 {
		k, fields, e := model.Element(thy, m, typ("bare"), n)
		if again := must(model.Make(thy, m, typ("bare"), k, fields)); again != n || e != api.OK {
			t.Error(n, k, fields, again)
		}
	}
	if k, fields, _ := model.Element(thy, m, typ("bare"), 18+1+2+7); k != 3 || !slices.Equal(fields, []int{1, 3}) {
		t.Error(k, fields)
	}
}

func TestCall(t *testing.T) {
	thy, m := logic(), world()
	for i, c := range []struct {
		a, b string
		f, x int
		y    int
		e    api.Errno
	}{
		{"t", "t", 2, 0, 0, 0}, {"t", "t", 2, 1, 1, 0}, {"t", "u", 7, 0, 1, 0}, {"t", "u", 7, 1, 2, 0}, {"u", "t", 6, 0, 0, 0}, {"u", "t", 6, 2, 1, 0}, {"fun(t, t)", "t", 8, 3, 1, 0},
		{"t", "t", 4, 0, 0, api.ErrRange}, {"t", "t", -1, 9, 0, api.ErrRange}, {"t", "t", 0, 2, 0, api.ErrRange}, {"t", "t", 0, -1, 0, api.ErrRange}, {"t", "t", math.MaxInt, 0, 0, api.ErrRange},
		{"'a", "none", 0, 0, 0, model.ErrFree}, {"bare", "none", 0, 0, 0, model.ErrModel}, {"t", "none", 0, 0, 0, api.ErrMissing}, {"t", "'a", 0, 0, 0, model.ErrFree}, {"fun(u, u)", "t", -1, 0, 0, api.ErrLarge}, {"pair(fun(u, u), pair(fun(u, u), fun(u, t)))", "'a", 0, 0, 0, api.ErrLarge},
	} {
		y, e := model.Call(thy, m, typ(c.a), typ(c.b), c.f, c.x)
		if y != c.y || e != c.e {
			t.Error(i, y, e)
		}
	}
	deep := typ("prop")
	one := model.Model{Carriers: []model.Carrier{{Name: "opt", Params: []string{"a"}, Cases: unit(1)}}}
	for range 499 {
		deep = api.Type{Op: api.TCon, Name: "opt", Args: []api.Type{deep}}
	}
	if _, e := model.Call(thy, one, deep, deep, 0, 0); e != api.ErrDepth {
		t.Error(e)
	}
	if y, e := model.Call(thy, one, deep.Args[0], deep.Args[0], 0, 0); y != 0 || e != api.OK {
		t.Error(y, e)
	}
}
