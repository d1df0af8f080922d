package model_test

import (
	"slices"
	"strings"
	"testing"

	"triforium/api"
	"triforium/model"
	"triforium/term"
	"triforium/theory"
	"triforium/types"
)

func reads(l ...string) []api.Term {
	var r []api.Term
	for _, s := range l {
		r = append(r, read(s))
	}
	return r
}

// sameAssign reports whether assignments are equal.
func sameAssign(a, b model.Assign) bool {
	return slices.Equal(a.Values, b.Values) && slices.EqualFunc(a.Types, b.Types, func(x, y api.TypeBind) bool {
		return x.Name == y.Name && x.Index == y.Index && types.Equal(x.To, y.To)
	})
}

func TestHolds(t *testing.T) {
	m := world()
	m.Ground = []api.Type{typ("bool"), typ("u"), typ("t"), typ("pair(t, u)")}
	no := model.Assign{}
	for i, c := range []struct {
		hyps []string
		prop string
		ok   bool
		a    model.Assign
	}{
		{nil, "(Tr<> True:bool)", true, no}, {nil, "(Tr<> False:bool)", false, no}, {[]string{"(Tr<> False:bool)"}, "(Tr<> False:bool)", true, no}, {[]string{"(Tr<> True:bool)"}, "(Tr<> False:bool)", false, no},
		{nil, "(Tr<> ((Equal<t> $x:t) $y:t))", false, model.Assign{Values: []model.Value{value("x", -1, 0), value("y", -1, 1)}}}, {nil, "(Tr<> ((Equal<t> $x:t) $x:t))", true, no}, {[]string{"(Tr<> ((Equal<t> $x:t) $y:t))"}, "(Tr<> ((Equal<t> $y:t) $x:t))", true, no},
		{[]string{"(Tr<> ((Equal<t> $x:t) k:t))"}, "(Tr<> ((Equal<t> $y:t) k:t))", false, model.Assign{Values: []model.Value{value("x", -1, 1), value("y", -1, 0)}}}, {[]string{"(Tr<> ((Equal<t> $x:t) k:t))", "(Tr<> (Not<> ((Equal<t> $x:t) k:t)))"}, "(Tr<> False:bool)", true, no},
		{nil, "(Tr<> ((Equal<'a> $x:'a) $y:'a))", false, model.Assign{Types: []api.TypeBind{bind("a", -1, "bool")}, Values: []model.Value{value("x", -1, 0), value("y", -1, 1)}}}, {nil, "(Tr<> ((Equal<?a.3> ?x.2:?a.3) $x:?a.3))", false, model.Assign{Types: []api.TypeBind{bind("a", 3, "bool")}, Values: []model.Value{value("x", -1, 0), value("x", 2, 1)}}},
		// Frees ahead of Vars, hypotheses ahead of the proposition
		{[]string{"(Tr<> ((Equal<u> ?z.0:u) $b:u))"}, "(Tr<> ((Equal<u> $a:u) ?z.0:u))", false, model.Assign{Values: []model.Value{value("b", -1, 0), value("a", -1, 1), value("z", 0, 0)}}},
		// only one type has the sort, and not all have two elements
		{nil, "(Tr<> ((Equal<'a{c}> $x:'a{c}) $y:'a{c}))", false, model.Assign{Types: []api.TypeBind{bind("a", -1, "t")}, Values: []model.Value{value("x", -1, 0), value("y", -1, 1)}}},
		{nil, "(Tr<> ((Or<> ((Or<> ((Equal<'a> $x:'a) $y:'a)) ((Equal<'a> $y:'a) $z:'a))) ((Equal<'a> $z:'a) $x:'a)))", false, model.Assign{Types: []api.TypeBind{bind("a", -1, "u")}, Values: []model.Value{value("x", -1, 0), value("y", -1, 1), value("z", -1, 2)}}},
		{nil, "(Tr<> ((Or<> ((Equal<?b.0> ?p.0:?b.0) ?q.0:?b.0)) ((Equal<?a.0> ?x.0:?a.0) ?y.0:?a.0)))", false, model.Assign{Types: []api.TypeBind{bind("b", 0, "bool"), bind("a", 0, "bool")}, Values: []model.Value{value("p", 0, 0), value("q", 0, 1), value("x", 0, 0), value("y", 0, 1)}}},
	} {
		ok, a, e := model.Holds(logic(), m, reads(c.hyps...), read(c.prop))
		if ok != c.ok || e != api.OK || !sameAssign(a, c.a) {
			t.Error(i, ok, a, e)
		}
		if !ok {
			if n, e := model.Evaluate(logic(), m, read(c.prop), a); n != 0 || e != api.OK {
				t.Error(i, n, e)
			}
		}
	}
	// without types for a type variable there is nothing to refute
	m.Ground = nil
	if ok, _, e := model.Holds(logic(), m, nil, read("(Tr<> ((Equal<'a> $x:'a) $y:'a))")); !ok || e != api.OK {
		t.Error(ok, e)
	}
	// types stand by their index in Ground, also twice
	m.Ground = []api.Type{typ("u"), typ("u"), typ("bool")}
	ok, a, e := model.Holds(logic(), m, nil, read("(Tr<> ((Equal<'a> $x:'a) $y:'a))"))
	if ok || e != api.OK || !types.Equal(a.Types[0].To, typ("u")) {
		t.Error(ok, a, e)
	}
	a.Types[0].To.Name = "other"
	if m.Ground[0].Name != "u" {
		t.Error("shared memory")
	}
}

func TestHoldsErrors(t *testing.T) {
	bad := logic()
	bad.Name = ""
	wrong := model.Model{Carriers: unitCarriers("u", 0)}
	many := slices.Repeat([]api.Term{{}}, api.MaxHyps+1)
	full := slices.Repeat(reads("(Tr<> True:bool)"), api.MaxHyps)
	truth := read("(Tr<> True:bool)")
	var all []string
	for i := range 17 {
		all = append(all, "(Tr<> ((Equal<?a."+string(rune('0'+i%10))+"> ?x."+string(rune('0'+i%10))+":?a."+string(rune('0'+i%10))+") ?x."+string(rune('0'+i%10))+":?a."+string(rune('0'+i%10))+"))")
	}
	for i, c := range []struct {
		thy  api.Theory
		m    model.Model
		hyps []api.Term
		prop api.Term
		e    api.Errno
	}{
		{bad, wrong, many, api.Term{}, api.ErrForm}, {bad, wrong, many[1:], api.Term{}, api.ErrTheory}, {logic(), wrong, many[1:], api.Term{}, model.ErrModel}, {logic(), world(), full, truth, 0},
		{logic(), world(), reads("$x:t", "missing:t"), api.Term{}, api.ErrType}, {logic(), world(), reads("missing:t", "$x:t"), api.Term{}, api.ErrMissing}, {logic(), world(), nil, api.Term{}, api.ErrForm}, {logic(), world(), nil, read("True:bool"), api.ErrType}, {logic(), world(), reads("(Tr<> $x:bool)"), read("$x:t"), api.ErrType},
		{logic(), world(), reads("(Tr<> ((Equal<t> $x:t) $x:t))", "((eq<'a> $y:'a) $y:'a)"), read("((eq<'a{c}> $x:'a{c}) $x:'a{c})"), api.ErrSort}, {logic(), world(), reads("(Tr<> ((Equal<t> $x:t) $x:t))"), read("(Tr<> ((Equal<u> $x:u) $x:u))"), api.ErrType}, {logic(), world(), reads("(Tr<> ((Equal<t> ?x.0:t) ?x.0:t))"), read("(Tr<> ((Equal<u> ?x.0:u) ?x.0:u))"), api.ErrType}, {logic(), world(), reads("(Tr<> ((Equal<t> ?x.0:t) ?x.0:t))"), read("(Tr<> ((Equal<u> ?x.1:u) $x:u))"), 0},
		{logic(), world(), reads("((eq<bare> $x:bare) $x:bare)"), read("((eq<t> $x:t) $x:t)"), api.ErrType}, {logic(), world(), reads("((eq<bare> $x:bare) $x:bare)"), truth, model.ErrModel}, {logic(), world(), nil, read("((eq<fun(bare, bare)> dark:fun(bare, bare)) dark:fun(bare, bare))"), model.ErrModel}, {logic(), model.Model{}, nil, read("((eq<t> k:t) k:t)"), model.ErrModel}, {logic(), world(), nil, read("((eq<t> loose:t) loose:t)"), model.ErrModel},
		{logic(), world(), nil, read("((eq<fun(u, fun(u, u))> $x:fun(u, fun(u, u))) $x:fun(u, fun(u, u)))"), api.ErrLarge}, {logic(), world(), nil, read("((eq<fun(u, u)> $x:fun(u, u)) $y:fun(u, u))"), 0}, {logic(), world(), nil, read("((eq<fun(u, fun(u, t))> $x:fun(u, fun(u, t))) $y:fun(u, fun(u, t)))"), api.ErrFuel},
	} {
		ok, a, e := model.Holds(c.thy, c.m, c.hyps, c.prop)
		if e != c.e || e != api.OK && (ok || !sameAssign(a, model.Assign{})) {
			t.Error(i, ok, a, e, c.e)
		}
	}
	// work is counted for all types, also behind one that refutes
	m := world()
	m.Ground = []api.Type{typ("bool"), typ("fun(u, u)"), typ("fun(u, fun(t, u))")}
	x := "(Tr<> ((Equal<'a> $x:'a) $y:'a))"
	if _, _, e := model.Holds(logic(), m, nil, read(x)); e != api.ErrFuel {
		t.Error(e)
	}
	m.Ground = m.Ground[:2]
	if ok, a, e := model.Holds(logic(), m, nil, read(x)); ok || e != api.OK || a.Types[0].To.Name != "bool" {
		t.Error(ok, a, e)
	}
	m.Ground = []api.Type{typ("bool"), typ("fun(u, u)")}
	if _, _, e := model.Holds(logic(), m, nil, read("(all<'a> (\\x:'a . ((eq<'b> $y:'b) $y:'b)))")); e != api.ErrLarge { // sets of fun(u, u)
		t.Error(e)
	}
}

// The work of all hypotheses and the proposition counts for each assignment, and each list of types.
func TestWorkOfHolds(t *testing.T) {
	thy, m := logic(), twelve()
	m.Ground = []api.Type{typ("u"), typ("t"), typ("u")}
	// Tr of a term has 1 more
	prop := func(n int) string { return "(Tr<> " + work(n-1) + ")" }
	x := func(u string) string { return "((eq<" + u + "> $x:" + u + ") $x:" + u + ")" } // 3
	for i, c := range []struct {
		hyps []string
		prop string
		ok   bool
	}{
		{nil, prop(50000), true}, {nil, prop(50001), false}, {[]string{prop(20000), prop(20000)}, prop(10000), true}, {[]string{prop(20000), prop(20000)}, prop(10001), false},
		{[]string{x("t")}, prop(24997), true}, {[]string{x("t")}, prop(24998), false}, {[]string{x("u")}, prop(4163), true}, {[]string{x("u")}, prop(4164), false}, // 12 * 4166 = 49992
		{[]string{x("'a")}, prop(1920), true}, {[]string{x("'a")}, prop(1921), false}, // (12 + 2 + 12) * 1923 = 49998
		{[]string{"((eq<fun('a, bool)> (\\x:'a . True:bool)) (\\x:'a . True:bool))"}, prop(16646), true}, {[]string{"((eq<fun('a, bool)> (\\x:'a . True:bool)) (\\x:'a . True:bool))"}, prop(16647), false}, // 2 * (3 + 24) + (3 + 4), and 3 times the proposition
	} {
		_, _, e := model.Holds(thy, m, reads(c.hyps...), read(c.prop))
		if (e == api.OK) != c.ok || e != api.OK && e != api.ErrFuel {
			t.Error(i, e)
		}
	}
	// lists of types
	var hyps []api.Term
	for i := range 16 {
		v := api.Type{Op: api.TVar, Name: "a", Index: i}
		hyps = append(hyps, must(term.Eq(api.Term{Op: api.Abs, Name: "x", Type: v, Kids: []api.Term{read("True:bool")}}, api.Term{Op: api.Abs, Name: "x", Type: v, Kids: []api.Term{read("True:bool")}})))
	}
	m.Ground = []api.Type{typ("t"), typ("bool")}
	if _, _, e := model.Holds(thy, m, hyps, read("(Tr<> True:bool)")); e != api.ErrFuel { // 65536 lists
		t.Error(e)
	}
	m.Ground = []api.Type{typ("t")}
	if ok, _, e := model.Holds(thy, m, hyps, read("(Tr<> True:bool)")); !ok || e != api.OK {
		t.Error(ok, e)
	}
	m.Ground = []api.Type{typ("t"), typ("bool")}
	none := append(hyps, read("((eq<?z.0{c}> ?q.0:?z.0{c}) ?q.0:?z.0{c})"))
	m.Ground = []api.Type{typ("u"), typ("bool")}
	if ok, _, e := model.Holds(thy, m, none, read("(Tr<> False:bool)")); !ok || e != api.OK { // no type has the sort
		t.Error(ok, e)
	}
}

func TestTrue(t *testing.T) {
	bad := logic()
	bad.Axioms = nil
	axiom := func(name, prop string) api.Theory {
		return must(theory.Extend(logic(), "More", api.Theory{Axioms: []api.Axiom{{Name: name, Prop: read(prop)}}}))
	}
	id := world() // f is the identity
	other := world()
	other.Meanings = slices.Clone(other.Meanings)
	other.Meanings[9].Value = 3
	typed := logic()
	typed.Axioms = append(typed.Axioms, api.Axiom{Name: "t_def", Kind: api.TypeDef, Prop: read("(Tr<> False:bool)")})
	both := axiom("later", "(Tr<> False:bool)")
	for i, c := range []struct {
		thy  api.Theory
		m    model.Model
		ok   bool
		name string
		e    api.Errno
	}{
		{theory.Pure(), model.Model{}, true, "", 0}, {logic(), id, true, "", 0}, {logic(), other, false, "total", 0}, {both, id, false, "later", 0}, {both, other, false, "total", 0}, {typed, id, false, "t_def", 0},
		{bad, id, false, "", api.ErrTheory}, {api.Theory{}, id, false, "", api.ErrTheory}, {logic(), model.Model{Carriers: unitCarriers("u", 0)}, false, "", model.ErrModel}, {logic(), model.Model{}, false, "", model.ErrModel},
		{axiom("large", "(Tr<> (All<fun(u, u)> (\\x:fun(u, u) . True:bool)))"), id, false, "", api.ErrLarge},
	} {
		ok, name, e := model.True(c.thy, c.m)
		if ok != c.ok || name != c.name || e != c.e {
			t.Error(i, ok, name, e)
		}
	}
}

// small is a theory with two types, two constants and two axioms.
func small() api.Theory {
	return must(theory.Extend(theory.Pure(), "Small", api.Theory{
		Types:  []api.TypeDecl{{Name: "t"}, {Name: "bool"}, {Name: "u"}},
		Consts: []api.ConstDecl{{Name: "a", Type: typ("t")}, {Name: "g", Type: fun("u", "t")}, {Name: "d", Type: typ("t")}},
		Axioms: []api.Axiom{
			{Name: "d_def", Kind: api.Defining, Prop: read("((eq<t> d:t) a:t)")}, {Name: "onto", Prop: read("((imp<> (all<t> (\\x:t . ((eq<t> #0) a:t)))) (all<u> (\\x:u . (all<u> (\\y:u . ((eq<u> #1) #0))))))")},
			{Name: "zero", Prop: read("((imp<> ((eq<t> d:t) (g:fun(u, t) ?x.0:u))) ((eq<prop> ?A.0:prop) ?B.0:prop))")},
		},
	}))
}

func TestModels(t *testing.T) {
	l, e := model.Models(small(), 2, 1000)
	if e != api.OK {
		t.Fatal(e)
	}
	// by hand: t and u of 1 or 2 elements; g never gives a; if t has 1 element, it does
	var want [][4]int
	for sizeT := 1; sizeT <= 2; sizeT++ {
		for sizeU := 1; sizeU <= 2; sizeU++ {
			for a := range sizeT {
				for g := range []int{1, sizeT, sizeT * sizeT}[sizeU] {
					fine := true
					for x, v := 0, g; x < sizeU; x++ {
						fine = fine && v%sizeT != a
						v /= sizeT
					}
					if fine {
						want = append(want, [4]int{sizeT, sizeU, a, g})
					}
				}
			}
		}
	}
	var got [][4]int
	for i, m := range l {
		if len(m.Carriers) != 2 || len(m.Meanings) != 2 || m.Carriers[0].Name != "t" || m.Carriers[1].Name != "u" || m.Meanings[0].Name != "a" || m.Meanings[1].Name != "g" || m.Meanings[1].How != model.Table {
			t.Fatal(i, m)
		}
		var ground []string
		for _, g := range m.Ground {
			ground = append(ground, must(types.Text(g)))
		}
		if strings.Join(ground, " ") != "t bool u" || model.Check(small(), m) != api.OK {
			t.Error(i, ground)
		}
		if ok, name, e := model.True(small(), m); !ok || e != api.OK {
			t.Error(i, name, e)
		}
		got = append(got, [4]int{len(m.Carriers[0].Cases), len(m.Carriers[1].Cases), m.Meanings[0].Value, m.Meanings[1].Value})
	}
	if !slices.Equal(got, want) || len(want) < 4 {
		t.Error(got, want)
	}
	for most := 1; most <= len(l); most++ {
		if k := must(model.Models(small(), 2, most)); len(k) != most || len(k[most-1].Carriers[0].Cases) != len(l[most-1].Carriers[0].Cases) || k[most-1].Meanings[1] != l[most-1].Meanings[1] {
			t.Error(most, len(k))
		}
	}
}

func TestModelsErrors(t *testing.T) {
	bad := small()
	bad.Name = ""
	with := func(more api.Theory) api.Theory { return must(theory.Extend(small(), "More", more)) }
	consts := func(s string) api.Theory {
		return with(api.Theory{Consts: []api.ConstDecl{{Name: "new", Type: typ(s)}}})
	}
	only := func(s ...string) api.Theory {
		thy := api.Theory{Types: []api.TypeDecl{{Name: "t"}, {Name: "u"}}}
		for i, x := range s {
			thy.Consts = append(thy.Consts, api.ConstDecl{Name: string(rune('a' + i)), Type: typ(x)})
		}
		return must(theory.Extend(theory.Pure(), "Only", thy))
	}
	for i, c := range []struct {
		thy        api.Theory
		size, most int
		n          int
		e          api.Errno
	}{
		{bad, 0, 0, 0, api.ErrTheory}, {small(), 0, 1, 0, api.ErrRange}, {small(), 4, 1, 0, api.ErrRange}, {small(), 1, 0, 0, api.ErrRange}, {small(), 1, 1001, 0, api.ErrRange}, {small(), 1, 1000, 0, 0}, {small(), -1, -1, 0, api.ErrRange},
		{with(api.Theory{Types: []api.TypeDecl{{Name: "l", Arity: 1}}}), 1, 0, 0, api.ErrRange}, {with(api.Theory{Types: []api.TypeDecl{{Name: "l", Arity: 1}}}), 1, 1, 0, model.ErrModel}, {consts("?a.0"), 1, 1, 0, model.ErrModel}, {consts("fun(t, ?a.0)"), 1, 1, 0, model.ErrModel},
		{only(), 1, 10, 1, 0}, {only(), 3, 10, 9, 0}, {only("t"), 3, 1000, 18, 0}, {only("t", "u"), 3, 1000, 36, 0}, {only("fun(t, prop)"), 3, 1000, 42, 0}, {only("fun(t, t)"), 3, 1000, 96, 0}, {only("fun(t, t)", "prop"), 3, 1000, 0, api.ErrLarge}, {only("fun(t, u)"), 2, 1000, 8, 0}, {only("t", "t", "t", "prop"), 3, 5, 0, api.ErrLarge},
		{only("fun(fun(t, t), prop)"), 3, 1, 0, api.ErrLarge}, {only("fun(fun(t, t), prop)"), 2, 1000, 2*2 + 2*16, 0}, {theory.Pure(), 3, 5, 1, 0},
		{must(theory.Extend(only(), "More", api.Theory{Axioms: []api.Axiom{{Name: "big", Prop: read("(all<fun(fun(fun(t, prop), prop), prop)> (\\x:fun(fun(fun(t, prop), prop), prop) . ((eq<prop> ?A.0:prop) ?A.0:prop)))")}}})), 1, 1, 0, api.ErrLarge},
	} {
		l, e := model.Models(c.thy, c.size, c.most)
		if len(l) != c.n || e != c.e {
			t.Error(i, len(l), e, c.n, c.e)
		}
	}
	// the first types without arguments but prop, at most 4
	thy := must(theory.Extend(theory.Pure(), "Many", api.Theory{Types: []api.TypeDecl{{Name: "a"}, {Name: "bool"}, {Name: "b"}, {Name: "c"}, {Name: "d"}}}))
	l := must(model.Models(thy, 1, 1))
	var ground []string
	for _, g := range l[0].Ground {
		ground = append(ground, g.Name)
	}
	if strings.Join(ground, " ") != "a bool b c" || len(l[0].Carriers) != 4 {
		t.Error(ground)
	}
}
