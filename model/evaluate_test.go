package model_test

import (
	"math"
	"strings"
	"testing"

	"triforium/api"
	"triforium/model"
	"triforium/term"
	"triforium/theory"
	"triforium/types"
)

func value(name string, index, n int) model.Value {
	return model.Value{Name: name, Index: index, Value: n}
}

func bind(name string, index int, to string) api.TypeBind {
	return api.TypeBind{Name: name, Index: index, To: typ(to)}
}

func TestEvaluate(t *testing.T) {
	thy, m := logic(), world()
	a := model.Assign{
		Types:  []api.TypeBind{bind("a", -1, "u"), bind("a", 0, "t"), bind("a", 1, "bool"), bind("a", -1, "t")},
		Values: []model.Value{value("p", -1, 1), value("q", -1, 0), value("q", -1, 1), value("q", 0, 1), value("x", -1, 2), value("x", 3, 1), value("s", -1, 5), value("g", -1, 7)},
	}
	for i, c := range []struct {
		s string
		n int
	}{
		{"$p:bool", 1}, {"$q:bool", 0}, {"?q.0:bool", 1}, {"$x:u", 2}, {"$x:'a", 2}, {"?x.3:?a.0", 1}, {"?x.3:?a.1", 1},
		{"True:bool", 1}, {"False:bool", 0}, {"(Not<> $p:bool)", 0}, {"((And<> $p:bool) $q:bool)", 0}, {"((Or<> $p:bool) $q:bool)", 1}, {"((Implies<> $p:bool) $q:bool)", 0}, {"((Implies<> $q:bool) $p:bool)", 1},
		{"Not<>", 1}, {"And<>", 2*4 + 0}, {"(And<> $p:bool)", 2}, {"(And<> $q:bool)", 0}, {"Or<>", 3*4 + 2}, {"Implies<>", 2*4 + 3}, {"imp<>", 2*4 + 3}, {"Equal<bool>", 2*4 + 1}, {"(Equal<u> $x:u)", 4}, {"eq<prop>", 2*4 + 1},
		{"Tr<>", 2}, {"(Tr<> $p:bool)", 1}, {"protect:fun(prop, prop)", 2}, {"(protect:fun(prop, prop) (Tr<> $q:bool))", 0}, {"All<t>", 8}, {"Ex<t>", 14}, {"all<t>", 8}, {"(All<u> $s:fun(u, bool))", 0}, {"(Ex<u> $s:fun(u, bool))", 1}, {"(Ex<u> (\\x:u . False:bool))", 0}, {"(All<u> (\\x:u . True:bool))", 1},
		{"(All<t> (\\x:t . ((Equal<t> #0) #0)))", 1}, {"(All<t> (\\x:t . ((Equal<t> #0) k:t)))", 0}, {"(all<t> (\\x:t . ((eq<t> #0) #0)))", 1},
		{"(The<u> $s:fun(u, bool))", 0}, {"(The<u> (\\x:u . ((Equal<u> #0) $x:u)))", 2}, {"(The<u> (\\x:u . False:bool))", 0}, {"The<t>", 4}, {"(((If<u> $p:bool) $x:u) $x:u)", 2}, {"(((If<t> $q:bool) k:t) ?x.3:t)", 1}, {"(If<t> $q:bool)", 2 + 4*2}, {"((If<t> $p:bool) k:t)", 3},
		{"((The<fun(t, t)> (\\f:fun(t, t) . ((Equal<fun(t, t)> #0) f:fun(t, t)))) k:t)", 1}, {"((((If<fun(t, t)> $p:bool) f:fun(t, t)) (\\x:t . k:t)) ?x.3:t)", 1},
		{"(\\x:t . #0)", 2}, {"(\\x:t . (\\y:t . #1))", 12}, {"(\\x:t . (\\y:t . #0))", 10}, {"((\\x:t . (\\y:t . #1)) k:t)", 3}, {"(((\\x:t . (\\y:t . #1)) k:t) ?x.3:t)", 1}, {"(((\\x:t . f:fun(t, t)) k:t) k:t)", 1}, {"((\\x:u . (\\y:t . #1)) $x:u)", 2 + 3*2},
		{"k:t", 1}, {"f:fun(t, t)", 2}, {"(f:fun(t, t) k:t)", 1}, {"($g:fun(t, u) k:t)", 2}, {"((\\h:fun(t, u) . (#0 k:t)) $g:fun(t, u))", 2},
		{"((mk:fun(u, fun(t, pair(u, t))) $x:u) k:t)", 5}, {"(mk:fun(t, fun(t, pair(t, t))) k:t)", 2 + 4*3}, {"(fst:fun(pair(u, t), u) ((mk:fun(u, fun(t, pair(u, t))) $x:u) k:t))", 2}, {"(snd:fun(pair(u, t), t) ((mk:fun(u, fun(t, pair(u, t))) $x:u) k:t))", 1}, {"fst:fun(pair(t, t), t)", 12}, {"snd:fun(pair(t, t), t)", 10},
		{"((split:fun(fun(u, fun(t, t)), fun(pair(u, t), t)) (\\x:u . (\\y:t . #0))) ((mk:fun(u, fun(t, pair(u, t))) $x:u) k:t))", 1}, {"(((split:fun(fun(u, fun(t, fun(t, t))), fun(pair(u, t), fun(t, t))) (\\x:u . (\\y:t . f:fun(t, t)))) ((mk:fun(u, fun(t, pair(u, t))) $x:u) k:t)) k:t)", 1},
		{"none:opt(u)", 0}, {"(some:fun(u, opt(u)) $x:u)", 3}, {"some:fun(t, opt(t))", 1 + 2*3}, {"(get:fun(opt(u), u) (some:fun(u, opt(u)) $x:u))", 2}, {"(get:fun(opt(u), u) none:opt(u))", 0}, {"get:fun(opt(t), t)", 4}, {"(((case:fun(t, fun(fun(u, t), fun(opt(u), t))) k:t) (\\x:u . ?x.3:t)) none:opt(u))", 1}, {"(((case:fun(u, fun(fun(u, u), fun(opt(u), u))) $x:u) (\\x:u . #0)) (some:fun(u, opt(u)) $x:u))", 2},
		{"((case:fun(t, fun(fun(t, t), fun(opt(t), t))) k:t) f:fun(t, t))", 1 + 4}, {"((((case:fun(fun(t, t), fun(fun(t, fun(t, t)), fun(opt(t), fun(t, t)))) f:fun(t, t)) (\\x:t . (\\y:t . #1))) none:opt(t)) k:t)", 1},
		{"((twice:fun(fun(t, t), fun(t, t)) f:fun(t, t)) k:t)", 1}, {"(twice:fun(fun(t, t), fun(t, t)) (\\x:t . (((If<t> ((Equal<t> #0) k:t)) f:fun(t, t)) f:fun(t, t))))", -1}, {"((xor:fun(bool, fun(bool, bool)) $p:bool) $q:bool)", 1}, {"xor:fun(bool, fun(bool, bool))", 2*1 + 4*1 - 0}, {"(twice:fun(fun(bool, bool), fun(bool, bool)) Not<>)", 2},
		{"(over:fun(bool, bool) $p:bool)", 1}, {"(over:fun(t, bool) k:t)", 0}, {"over:fun(t, bool)", 0}, {"(over:fun(pair(bool, bool), bool) ((mk:fun(bool, fun(bool, pair(bool, bool))) $p:bool) $p:bool))", 1}, {"(over:fun(pair(bool, t), bool) ((mk:fun(bool, fun(t, pair(bool, t))) $p:bool) k:t))", 0}, {"(over:fun(pair(bool, pair(bool, bool)), bool) ((mk:fun(bool, fun(pair(bool, bool), pair(bool, pair(bool, bool)))) $p:bool) ((mk:fun(bool, fun(bool, pair(bool, bool))) $p:bool) $p:bool)))", 1},
		{"((over:fun(fun(t, t), bool) f:fun(t, t)))", -1},
	} {
		if c.n < 0 {
			continue
		}
		n, e := model.Evaluate(thy, m, read(c.s), a)
		if n != c.n || e != api.OK {
			t.Error(i, c.s, n, c.n, e)
		}
	}
}

func TestEvaluateErrors(t *testing.T) {
	bad := logic()
	bad.Name = ""
	wrong := model.Model{Carriers: unitCarriers("u", 0)}
	empty := model.Assign{}
	for i, c := range []struct {
		thy api.Theory
		m   model.Model
		t   api.Term
		a   model.Assign
		e   api.Errno
	}{
		{bad, wrong, api.Term{}, empty, api.ErrTheory}, {logic(), wrong, api.Term{}, empty, model.ErrModel}, {logic(), world(), api.Term{}, empty, api.ErrForm}, {logic(), world(), api.Term{Op: api.Bound}, empty, term.ErrLoose}, {logic(), world(), read("(k:t $x:bare)"), empty, api.ErrType}, {logic(), world(), read("missing:bare"), empty, api.ErrMissing},
		{logic(), world(), read("$x:bare"), empty, model.ErrModel}, {logic(), world(), read("(\\x:bare . $y:'a)"), empty, model.ErrModel}, {logic(), world(), read("loose:bool"), empty, model.ErrModel}, {logic(), world(), read("dark:fun(bare, bare)"), empty, model.ErrModel}, {logic(), model.Model{}, read("k:t"), empty, model.ErrModel}, {logic(), model.Model{Carriers: unitCarriers("t", 1)}, read("k:t"), empty, model.ErrModel},
		{logic(), model.Model{}, read("(over:fun(bool, bool) $x:bool)"), empty, model.ErrModel}, {logic(), model.Model{}, read("$x:bool"), empty, model.ErrFree},
	} {
		if n, e := model.Evaluate(c.thy, c.m, c.t, c.a); n != 0 || e != c.e {
			t.Error(i, n, e, c.e)
		}
	}
	var huge api.Type
	huge = typ("t")
	for range 501 {
		huge = api.Type{Op: api.TCon, Name: "opt", Args: []api.Type{huge}}
	}
	x := func(s string, n int, l ...api.TypeBind) model.Assign {
		return model.Assign{Types: l, Values: []model.Value{value("x", -1, n), value("x", 0, 99)}}
	}
	for i, c := range []struct {
		s string
		a model.Assign
		e api.Errno
	}{
		{"$x:t", x("", 1), 0}, {"$x:t", x("", 2), model.ErrFree}, {"$x:t", x("", -1), model.ErrFree}, {"$y:t", x("", 0), model.ErrFree}, {"?x.0:t", x("", 0), model.ErrFree}, {"?x.1:t", x("", 0), model.ErrFree}, {"$x:fun(fun(fun(u, u), u), u)", x("", math.MaxInt), api.ErrLarge}, {"$x:fun(fun(u, u), bool)", x("", 1<<27-1), api.ErrLarge}, {"$x:fun(fun(u, u), bool)", x("", 1<<27), model.ErrFree}, {"$x:fun(fun(u, u), bool)", x("", 5000), api.ErrLarge},
		{"$x:'a", x("", 0), model.ErrFree}, {"$x:'a", x("", 1, bind("a", -1, "t")), 0}, {"$x:'a", x("", 1, bind("a", 0, "t")), model.ErrFree}, {"$x:?a.0", x("", 1, bind("a", 0, "t")), 0}, {"$x:?a.1", x("", 1, bind("a", 0, "t")), model.ErrFree}, {"$x:?a.0", x("", 1, bind("a", -1, "t")), model.ErrFree}, {"$x:'a", x("", 2, bind("a", -1, "t"), bind("a", -1, "u")), model.ErrFree}, {"$x:'a", x("", 2, bind("a", -1, "u"), bind("a", -1, "t")), 0},
		{"$x:'a", x("", 0, bind("a", -1, "'b"), bind("b", -1, "t")), model.ErrFree}, {"$x:'a", x("", 0, bind("a", -1, "?b.0")), model.ErrFree}, {"$x:'a", x("", 0, bind("a", -1, "none")), model.ErrFree}, {"$x:'a", x("", 0, bind("a", -1, "t(t)")), model.ErrFree}, {"$x:'a", x("", 0, bind("a", -1, "bare")), model.ErrFree}, {"$x:'a", x("", 0, api.TypeBind{Name: "a", Index: -1, To: huge}), model.ErrFree}, {"$x:'a", x("", 0, api.TypeBind{Name: "a", Index: -1}), model.ErrFree},
		{"$x:'a{c}", x("", 0, bind("a", -1, "u")), model.ErrFree}, {"$x:'a{c}", x("", 1, bind("a", -1, "t")), 0}, {"$x:'a{c}", x("", 0, bind("a", -1, "pair(t, u)")), 0}, {"$x:'a{c}", x("", 0, bind("a", -1, "pair(u, t)")), model.ErrFree}, {"$x:'a", x("", 0, bind("a", -1, "pair(u, fun(u, u))")), 0}, {"$x:'a", x("", 4096, bind("a", -1, "fun(fun(u, u), u)")), api.ErrLarge},
		{"(\\y:'a . $x:t)", x("", 0), model.ErrFree}, {"(\\y:'a . $x:t)", x("", 0, bind("a", -1, "fun(u, u)")), api.ErrLarge}, {"(\\y:'a . $x:t)", x("", 0, bind("a", -1, "u")), 0},
	} {
		if _, e := model.Evaluate(logic(), world(), read(c.s), c.a); e != c.e {
			t.Error(i, c.s, e, c.e)
		}
	}
}

// twelve is a model in which u has 12 elements: so many that sets of it are not too large.
func twelve() model.Model {
	m := world()
	m.Carriers[1].Cases = unit(12)
	return m
}

// work returns a term of the type bool with so much work in the model twelve, made of True, Not, And and All.
func work(n int) string {
	if n > 40 { // work of All is 2 + 12 times that of the body
		b := (n - 4) / 12
		return "((And<> (All<u> (\\x:u . " + work(b) + "))) " + work(n-3-12*b) + ")"
	}
	switch n {
	case 1:
		return "True:bool"
	case 2:
		return "(Not<> True:bool)"
	}
	return "((And<> " + work((n-1)/2) + ") " + work(n-1-(n-1)/2) + ")"
}

func TestWork(t *testing.T) {
	m := twelve()
	a := model.Assign{Values: []model.Value{value("x", -1, 0), value("g", -1, 0)}}
	for i, c := range []struct {
		s    string
		work int
	}{
		{work(40), 40}, {work(41), 41}, {work(1000), 1000}, {work(12345), 12345}, {"(All<u> (\\x:u . " + work(100) + "))", 1202},
		{"Not<>", 1 + 2}, {"And<>", 1 + 4}, {"(And<> True:bool)", 1 + 1 + 2}, {"(Equal<u> $x:u)", 1 + 1 + 12}, {"The<t>", 1 + 4}, {"All<t>", 1 + 4}, {"((If<t> True:bool) k:t)", 1 + 1 + 1 + 2}, {"k:t", 1}, {"(f:fun(t, t) k:t)", 2}, {"f:fun(t, t)", 1}, {"True:bool", 1},
		{"mk:fun(t, fun(bool, pair(t, bool)))", 1 + 4}, {"(mk:fun(t, fun(t, pair(t, t))) k:t)", 1 + 1 + 2}, {"fst:fun(pair(t, t), t)", 1 + 4}, {"((case:fun(t, fun(fun(t, t), fun(opt(t), t))) k:t) f:fun(t, t))", 1 + 1 + 1 + 3}, {"none:opt(t)", 1}, {"(fst:fun(pair(t, t), t) $x:pair(t, t))", 2},
		{"$x:u", 1}, {"(\\x:t . #0)", 1 + 2}, {"(\\x:t . (\\y:t . $x:t))", 1 + 2*(1+2*1)}, {"($g:fun(t, t) $x:t)", 2}, {"((\\x:u . #0) $x:u)", 1 + 1 + 1}, {"((\\x:t . (\\y:t . #1)) $x:t)", 1 + 1 + 1 + 2}, {"(((\\x:u . (\\y:t . #1)) $x:u) k:t)", 1 + 1 + 1 + 1}, {"(((\\x:u . f:fun(t, t)) $x:u) k:t)", 1 + 1 + 1 + 1},
		{"(over:fun(t, bool) k:t)", 2}, {"(over:fun(bool, bool) True:bool)", 1 + 1 + 1 + 1}, {"over:fun(bool, bool)", 1 + 1 + 2}, {"((xor:fun(bool, fun(bool, bool)) True:bool) True:bool)", 1 + 2 + 1 + (1 + 1 + 2)}, {"(xor:fun(bool, fun(bool, bool)) True:bool)", 1 + 1 + 1 + (1 + 2*4)},
		{"((twice:fun(fun(t, t), fun(t, t)) f:fun(t, t)) k:t)", 1 + 2 + 1 + 3},
	} {
		u, e := term.TypeOf(read(c.s))
		if e != api.OK {
			t.Fatal(i, e)
		}
		// (\x. \y. y) c rest: 1, the work of c and of the rest, and 1
		rest := model.MaxWork - c.work - 2
		for spare := range 2 {
			s := "(((\\x:" + must(types.Text(u)) + " . (\\y:bool . #0)) " + c.s + ") " + work(rest+spare) + ")"
			n, e := model.Evaluate(logic(), m, read(s), a)
			if spare == 0 && e != api.OK || spare == 1 && e != api.ErrFuel {
				t.Errorf("%d %.60s: %d more than there is: %d %d", i, c.s, spare, n, e)
			}
		}
	}
}

// Only what is evaluated may not be too large; work comes first.
func TestLarge(t *testing.T) {
	thy, m := logic(), world()
	one := world()
	one.Carriers[0].Cases = unit(1)
	one.Meanings[8].Value, one.Meanings[9].Value = 0, 0
	set := "fun(fun(u, u), bool)" // 2 to the power of 27
	for i, c := range []struct {
		m model.Model
		s string
		e api.Errno
	}{
		{m, "(The<fun(u, u)> (\\x:fun(u, u) . True:bool))", api.ErrLarge}, {m, "(All<fun(u, u)> (\\x:fun(u, u) . True:bool))", api.ErrLarge}, {m, "((Equal<fun(u, u)> (\\x:u . #0)) (\\x:u . #0))", 0}, {m, "(Equal<fun(u, u)> (\\x:u . #0))", api.ErrLarge}, {m, "Equal<u>", 0}, {m, "Equal<fun(t, t)>", api.ErrLarge},
		{m, "((\\s:" + set + " . True:bool) (\\x:fun(u, u) . True:bool))", api.ErrLarge}, {m, "(((\\x:t . (\\y:fun(u, u) . True:bool)) k:t) (\\x:u . #0))", 0}, {m, "((\\x:t . (\\y:fun(u, u) . True:bool)) k:t)", api.ErrLarge}, {m, "((((If<" + set + "> True:bool) (\\x:fun(u, u) . True:bool)) (\\x:fun(u, u) . True:bool)) (\\x:u . #0))", api.ErrLarge},
		{m, "(((If<fun(u, fun(u, t))> True:bool) (\\x:u . (\\x:u . k:t))) (\\x:u . (\\x:u . k:t)))", 0}, {m, "((((If<fun(u, fun(u, t))> True:bool) (\\x:u . (\\x:u . k:t))) (\\x:u . (\\x:u . k:t))) (The<u> (\\x:u . True:bool)))", 0},
		{one, "(\\x:" + set + " . k:t)", 0}, {one, "(\\x:" + set + " . ((\\y:" + set + " . k:t) #0))", api.ErrLarge}, {one, "(\\x:" + set + " . (\\y:" + set + " . k:t))", api.ErrFuel}, {one, "(over:fun(" + set + ", bool) (\\x:fun(u, u) . True:bool))", api.ErrLarge},
		{one, "(\\x:" + set + " . (f:fun(t, t) (f:fun(t, t) (f:fun(t, t) (f:fun(t, t) (f:fun(t, t) k:t))))))", 0}, {one, "(\\x:" + set + " . " + strings.Repeat("(f:fun(t, t) ", 12) + "k:t" + strings.Repeat(")", 12) + ")", api.ErrFuel}, {one, "(\\x:" + set + " . " + strings.Repeat("(f:fun(t, t) ", 11) + "k:t" + strings.Repeat(")", 11) + ")", 0},
		{m, "(\\x:fun(u, u) . (\\y:fun(u, u) . True:bool))", api.ErrLarge}, {m, "(\\x:fun(u, u) . (\\y:fun(u, u) . (\\z:fun(u, u) . " + work(3) + ")))", api.ErrFuel},
	} {
		if _, e := model.Evaluate(thy, c.m, read(c.s), model.Assign{}); e != c.e {
			t.Error(i, c.s, e, c.e)
		}
	}
}

// Definitions that lead back to each other through a special one are permitted, and unfold without end.
func TestEndless(t *testing.T) {
	n := typ("t")
	thy := must(theory.Extend(theory.Pure(), "E", api.Theory{
		Types:  []api.TypeDecl{{Name: "t"}, {Name: "l", Arity: 1}},
		Consts: []api.ConstDecl{{Name: "size", Type: fun("?a.0", "t")}, {Name: "one", Type: n}, {Name: "nil", Type: typ("l(?a.0)")}, {Name: "hd", Type: fun("l(?a.0)", "?a.0")}},
	}))
	thy = must(theory.Overload(thy, "E", "size", typ("l('a)"), read("(\\x:l('a) . (size:fun('a, t) (hd:fun(l('a), 'a) #0)))")))
	thy = must(theory.Overload(thy, "E", "size", n, read("(\\x:t . one:t)")))
	thy, e := theory.Extend(thy, "E", api.Theory{Axioms: []api.Axiom{{Name: "one_def", Kind: api.Defining, Prop: read("((eq<t> one:t) (size:fun(l(t), t) nil:l(t)))")}}})
	if e != api.OK {
		t.Skip("such definitions are not permitted", e)
	}
	m := model.Model{
		Carriers: []model.Carrier{{Name: "t", Cases: unit(2)}, {Name: "l", Params: []string{"a"}, Cases: [][]api.Type{{}, {typ("'a")}}}},
		Meanings: []model.Meaning{{Name: "nil", How: model.Maker, Type: "l"}, {Name: "hd", How: model.Part, Type: "l", Case: 1}},
	}
	if _, e := model.Evaluate(thy, m, read("one:t"), model.Assign{}); e != api.ErrFuel {
		t.Error(e)
	}
	if _, e := model.Evaluate(thy, m, read("(\\x:fun(fun(t, fun(t, t)), t) . one:t)"), model.Assign{}); e != api.ErrFuel {
		t.Error(e)
	}
}
