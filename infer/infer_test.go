package infer_test

import (
	"math"
	"slices"
	"strings"
	"testing"

	"triforium/api"
	"triforium/infer"
	"triforium/sort"
	"triforium/term"
	"triforium/theory"
	"triforium/types"
)

// typ returns the type with a text; the empty text is the zero type.
func typ(s string) api.Type {
	if s == "" {
		return api.Type{}
	}
	t, e := types.Read(s)
	if e != api.OK {
		panic(s)
	}
	return t
}

// cst, free, sch, abs and is return raw nodes, whose types are texts.
func cst(name, t string) api.Term { return api.Term{Op: api.Const, Name: name, Type: typ(t)} }
func free(name, t string) api.Term {
	return api.Term{Op: api.Free, Name: name, Type: typ(t)}
}
func sch(name string, n int, t string) api.Term {
	return api.Term{Op: api.Var, Name: name, Num: n, Type: typ(t)}
}
func bound(n int) api.Term { return api.Term{Op: api.Bound, Num: n} }
func abs(t string, body api.Term) api.Term {
	return api.Term{Op: api.Abs, Name: "x", Type: typ(t), Kids: []api.Term{body}}
}
func app(f api.Term, l ...api.Term) api.Term { return term.Apps(f, l) }
func is(t string, raw api.Term) api.Term {
	return api.Term{Op: infer.Constraint, Type: typ(t), Kids: []api.Term{raw}}
}

// numbers is a theory with classes c and d, neither below the other one, and e below both; nat is of c, lists are as their elements are.
func numbers() api.Theory {
	thy, e := theory.Extend(theory.Pure(), "T", api.Theory{
		Classes: []api.Class{{Name: "c"}, {Name: "d"}, {Name: "e", Supers: []string{"c", "d"}}},
		Types:   []api.TypeDecl{{Name: "nat"}, {Name: "list", Arity: 1}, {Name: "pair", Arity: 2}},
		Arities: []api.Arity{{Type: "nat", Class: "c"}, {Type: "list", Class: "c", Sorts: [][]string{{"c"}}}, {Type: "list", Class: "d", Sorts: [][]string{{"d"}}}, {Type: "list", Class: "e", Sorts: [][]string{{"e"}}}},
		Consts: []api.ConstDecl{
			{Name: "zero", Type: typ("nat")}, {Name: "nil", Type: typ("list(?a.0)")}, {Name: "cons", Type: typ("fun(?a.0, fun(list(?a.0), list(?a.0)))")}, {Name: "size", Type: typ("fun(?a.0{c}, nat)")},
			{Name: "dup", Type: typ("fun(?b.0{d}, prop)")}, {Name: "both", Type: typ("fun(?b.0, fun(?b.0, pair(?b.0, ?b.0)))")}, {Name: "any", Type: typ("?x.0")}, {Name: "two", Type: typ("fun(?a.0, fun(?b.0, prop))")},
		},
	})
	if e != api.OK {
		panic(e)
	}
	return thy
}

// texts returns the texts of terms.
func texts(l []api.Term) string {
	var r []string
	for _, t := range l {
		s, e := term.Text(t)
		if e != api.OK {
			return "no text"
		}
		r = append(r, s)
	}
	return strings.Join(r, " ; ")
}

func TestExample(t *testing.T) {
	r, e := infer.Term(theory.Pure(), nil, abs("", bound(0)), api.Type{})
	if s, _ := term.Text(r); e != api.OK || s != `(\x:'a . #0)` {
		t.Error(s, e)
	}
}

// rightForms and wrongForms are raw terms, and what Form returns of them.
func TestForm(t *testing.T) {
	x, deep := free("x", ""), free("x", "")
	for range 499 {
		deep = abs("", deep)
	}
	wide := x
	for range 14 {
		wide = app(wide, wide)
	}
	for i, c := range []struct {
		t api.Term
		e api.Errno
	}{
		{x, api.OK}, {free("x", "nat"), api.OK}, {cst("c", "?a.1000000"), api.OK}, {sch("x", math.MaxInt, ""), api.OK}, {abs("", bound(0)), api.OK}, {is("nat", x), api.OK}, {is("nat", is("prop", x)), api.OK}, {deep, api.OK}, {api.Term{Op: api.Abs, Name: "no name!", Kids: []api.Term{x}}, api.OK}, {api.Term{Op: api.Abs, Kids: []api.Term{x}}, api.OK},
		{abs("", deep), api.ErrDepth}, {app(wide, x), api.ErrCount}, {app(wide, api.Term{}), api.ErrCount}, {abs("", abs("", api.Term{Op: 9, Kids: []api.Term{deep}})), api.ErrDepth},
		{api.Term{}, api.ErrForm}, {api.Term{Op: 8}, api.ErrForm}, {api.Term{Op: -1}, api.ErrForm}, {free("", ""), api.ErrForm}, {free("1", ""), api.ErrForm}, {cst("", ""), api.ErrForm}, {sch(strings.Repeat("x", 41), 0, ""), api.ErrForm}, {sch("x", -1, ""), api.ErrForm}, {bound(-1), api.ErrForm}, {abs("", bound(math.MinInt)), api.ErrForm},
		{api.Term{Op: api.Free, Name: "x", Num: 1}, api.ErrForm}, {api.Term{Op: api.Free, Name: "x", Kids: []api.Term{x}}, api.ErrForm}, {api.Term{Op: api.Bound, Name: "x"}, api.ErrForm}, {abs("", api.Term{Op: api.Bound, Type: typ("nat")}), api.ErrForm}, {api.Term{Op: api.Abs}, api.ErrForm}, {api.Term{Op: api.Abs, Kids: []api.Term{x, x}}, api.ErrForm},
		{api.Term{Op: api.Abs, Num: 1, Kids: []api.Term{x}}, api.ErrForm}, {api.Term{Op: api.App, Kids: []api.Term{x}}, api.ErrForm}, {api.Term{Op: api.App, Kids: []api.Term{x, x, x}}, api.ErrForm}, {api.Term{Op: api.App, Name: "x", Kids: []api.Term{x, x}}, api.ErrForm}, {api.Term{Op: api.App, Type: typ("nat"), Kids: []api.Term{x, x}}, api.ErrForm},
		{api.Term{Op: api.Free, Name: "x", Type: api.Type{Op: api.TCon}}, api.ErrForm}, {api.Term{Op: api.Free, Name: "x", Type: api.Type{Name: "a"}}, api.ErrForm}, {api.Term{Op: api.Free, Name: "x", Type: api.Type{Op: api.TVar, Name: "a", Index: -1}}, api.ErrForm}, {api.Term{Op: api.Free, Name: "x", Type: api.Type{Op: api.TFree, Name: "a", Sort: slices.Repeat([]string{"a"}, 2)}}, api.ErrForm},
		{is("", x), api.ErrForm}, {api.Term{Op: infer.Constraint, Type: typ("nat")}, api.ErrForm}, {api.Term{Op: infer.Constraint, Name: "x", Type: typ("nat"), Kids: []api.Term{x}}, api.ErrForm}, {api.Term{Op: infer.Constraint, Num: 1, Type: typ("nat"), Kids: []api.Term{x}}, api.ErrForm}, {api.Term{Op: infer.Constraint, Type: typ("nat"), Kids: []api.Term{x, x}}, api.ErrForm}, {api.Term{Op: infer.Constraint, Type: api.Type{Op: 4, Name: "a"}, Kids: []api.Term{x}}, api.ErrForm},
		{bound(0), term.ErrLoose}, {abs("", bound(1)), term.ErrLoose}, {app(abs("", bound(0)), bound(0)), term.ErrLoose}, {app(bound(0), free("", "")), term.ErrLoose}, {app(free("", ""), bound(0)), api.ErrForm}, {is("nat", bound(0)), term.ErrLoose},
	} {
		if e := infer.Form(c.t); e != c.e {
			t.Error(i, e, c.e)
		}
		if _, e := infer.Term(numbers(), nil, c.t, api.Type{}); c.e != api.OK && e != c.e {
			t.Error(i, "Term", e)
		}
	}
}

func TestTerms(t *testing.T) {
	x, y := free("x", ""), free("y", "")
	known := []infer.Known{{"n", typ("nat")}, {"n", typ("prop")}, {"f", typ("fun('a, ?b.1{c})")}}
	for i, c := range []struct {
		raw  []api.Term
		want string // types, with blanks between
		text string
	}{
		{nil, "", ""}, {[]api.Term{x}, "-", "$x:'b"}, {[]api.Term{x}, "nat", "$x:nat"}, {[]api.Term{x, x}, "nat -", "$x:nat ; $x:nat"}, {[]api.Term{x, x}, "- nat", "$x:nat ; $x:nat"}, {[]api.Term{sch("x", 0, ""), sch("x", 1, ""), x, sch("x", 0, "")}, "- prop - nat", "?x.0:nat ; ?x.1:prop ; $x:'b ; ?x.0:nat"},
		// known variables: the first of a name, for Frees alone
		{[]api.Term{free("n", ""), sch("n", 0, ""), abs("", bound(0))}, "- - -", "$n:nat ; ?n.0:'b ; (\\x:'c . #0)"}, {[]api.Term{free("n", "prop")}, "-", "$n:prop"}, {[]api.Term{app(free("f", ""), y)}, "-", "($f:fun('a, ?b.1{c}) $y:'a)"},
		// types that are given stay
		{[]api.Term{free("x", "'b"), y}, "- -", "$x:'b ; $y:'c"}, {[]api.Term{y}, "'z", "$y:'z"}, {[]api.Term{is("?a.0{c}", x), y}, "- -", "$x:?a.0{c} ; $y:'b"}, {[]api.Term{abs("'c", app(x, bound(0)))}, "-", "(\\x:'c . ($x:fun('c, 'b) #0))"}, {[]api.Term{app(abs("", bound(0)), y)}, "?a.7", "((\\x:?a.7 . #0) $y:?a.7)"},
		// a variable with a type of its own is not the one without
		{[]api.Term{app(free("g", "fun(nat, prop)"), x), free("x", "nat")}, "- -", "($g:fun(nat, prop) $x:nat) ; $x:nat"}, {[]api.Term{free("x", "nat"), x}, "- -", "$x:nat ; $x:'b"},
		// constants: a new instance each time, with sorts
		{[]api.Term{cst("zero", ""), cst("nil", ""), cst("nil", "")}, "- - list(nat)", "zero:nat ; nil:list('b) ; nil:list(nat)"}, {[]api.Term{cst("nil", "list(prop)")}, "-", "nil:list(prop)"}, {[]api.Term{cst("nil", "list('a)"), cst("any", "")}, "- -", "nil:list('a) ; any:'b"},
		{[]api.Term{app(cst("size", ""), x)}, "-", "(size:fun('b{c}, nat) $x:'b{c})"}, {[]api.Term{app(cst("two", ""), app(cst("size", ""), x), app(cst("dup", ""), x))}, "-", "((two:fun(nat, fun(prop, prop)) (size:fun('b{c,d}, nat) $x:'b{c,d})) (dup:fun('b{c,d}, prop) $x:'b{c,d}))"},
		{[]api.Term{app(cst("size", ""), app(cst("cons", ""), x, y))}, "-", "(size:fun(list('b{c}), nat) ((cons:fun('b{c}, fun(list('b{c}), list('b{c}))) $x:'b{c}) $y:list('b{c})))"}, {[]api.Term{app(cst("size", ""), is("'q{e}", x))}, "-", "(size:fun('q{e}, nat) $x:'q{e})"}, {[]api.Term{app(cst("size", ""), is("?q.0{e}", x))}, "-", "(size:fun(?q.0{e}, nat) $x:?q.0{e})"},
		// applications, abstractions, constraints
		{[]api.Term{abs("", abs("", app(bound(1), bound(0))))}, "-", "(\\x:fun('b, 'c) . (\\x:'b . (#1 #0)))"}, {[]api.Term{app(x, y)}, "-", "($x:fun('b, 'c) $y:'b)"}, {[]api.Term{app(x, y), y}, "prop nat", "($x:fun(nat, prop) $y:nat) ; $y:nat"}, {[]api.Term{is("nat", is("nat", app(x, is("prop", y))))}, "-", "($x:fun(prop, nat) $y:prop)"},
		{[]api.Term{app(is("fun(nat, prop)", abs("", x)), y)}, "-", "((\\x:nat . $x:prop) $y:nat)"}, {[]api.Term{api.Term{Op: api.Abs, Kids: []api.Term{bound(0)}}}, "-", "(\\:'b . #0)"}, {[]api.Term{app(cst("all", ""), abs("", app(cst("imp", ""), app(cst("eq", ""), bound(0), bound(0)), x)))}, "prop", "(all:fun(fun('b, prop), prop) (\\x:'b . ((imp:fun(prop, fun(prop, prop)) ((eq:fun('b, fun('b, prop)) #0) #0)) $x:prop)))"},
	} {
		var want []api.Type
		for _, s := range strings.Fields(strings.ReplaceAll(c.want, ", ", ",")) {
			want = append(want, typ(strings.ReplaceAll(strings.TrimPrefix(s, "-"), ",", ", ")))
		}
		r, e := infer.Terms(numbers(), known, c.raw, want)
		if got := texts(r); got != c.text || e != api.OK {
			t.Errorf("%d %v\n%s\n%s", i, e, got, c.text)
		}
	}
}

// TestNames has 70 variables that are left: a to z, a1 to z1 and so on, without those that given types have.
func TestNames(t *testing.T) {
	var names []string
	for i := range 78 {
		names = append(names, string(rune('a'+i%26))+[]string{"", "1", "2"}[i/26])
	}
	given := []string{"z", "b1", "y", "d", "a2", "f"}
	names = slices.DeleteFunc(names, func(s string) bool { return slices.Contains(given, s) })
	raw := app(cst("two", ""), free("k", "'b1"), is("'z", free("j", "")))
	for i := 69; i >= 0; i-- {
		raw = app(cst("two", ""), sch("w", i, ""), raw)
	}
	known := []infer.Known{{"unused", typ("'y")}, {"g", typ("fun('d, ?c.0)")}}
	l, e := infer.Terms(numbers(), known, []api.Term{raw, sch("v", 0, ""), free("x", "'a2")}, []api.Type{{}, {}, {}})
	if e != api.OK {
		t.Fatal(e)
	}
	l2, f := infer.Terms(numbers(), known, []api.Term{raw, free("x", "'a2"), sch("v", 0, "")}, []api.Type{{}, {}, typ("'f")})
	if f != api.OK || l2[2].Type.Name != "f" || l[1].Type.Name == "f" {
		t.Error(f)
	}
	for i, v := range term.Vars(l2[0]) {
		if v.Num != i || v.Type.Op != api.TFree || v.Type.Name != names[i] {
			t.Error(i, v)
		}
	}
	// without want the name f is free
	if vars := term.Vars(l[0]); vars[4].Type.Name != "f" || vars[3].Type.Name != "e" || l[1].Type.Name != names[69] {
		t.Error(vars[4], l[1])
	}
}

func TestTermsErrors(t *testing.T) {
	x, y, zero := free("x", ""), free("y", ""), api.Type{}
	wrong := numbers()
	wrong.Classes[0].Name = "1"
	ill := numbers()
	ill.Name = ""
	big := app(cst("both", ""), x, x)
	for range 10 {
		big = app(cst("both", ""), big, big)
	}
	for i, c := range []struct {
		thy   api.Theory
		known []infer.Known
		raw   []api.Term
		want  []api.Type
		e     api.Errno
	}{
		{wrong, make([]infer.Known, 61), nil, nil, sort.ErrName}, {ill, make([]infer.Known, 61), nil, nil, api.ErrForm}, {numbers(), make([]infer.Known, 61), []api.Term{x}, nil, api.ErrCount}, {numbers(), nil, make([]api.Term, 21), nil, api.ErrCount}, {numbers(), nil, slices.Repeat([]api.Term{x}, 20), make([]api.Type, 20), api.OK}, {numbers(), slices.Repeat([]infer.Known{{"x", typ("nat")}}, 60), nil, nil, api.OK},
		{numbers(), []infer.Known{{}}, make([]api.Term, 2), []api.Type{zero}, api.ErrArgument}, {numbers(), []infer.Known{{}}, []api.Term{x, bound(0), {}}, make([]api.Type, 3), term.ErrLoose},
		// given types: known, then those of terms, then want
		{numbers(), []infer.Known{{}}, []api.Term{free("x", "set")}, []api.Type{zero}, api.ErrForm}, {numbers(), []infer.Known{{"", typ("set")}}, []api.Term{free("x", "list")}, []api.Type{zero}, api.ErrMissing}, {numbers(), nil, []api.Term{free("x", "list"), free("x", "set")}, []api.Type{zero, zero}, api.ErrCount},
		{numbers(), nil, []api.Term{is("?a.0{k}", abs("list", x))}, []api.Type{typ("list")}, api.ErrMissing}, {numbers(), nil, []api.Term{x}, []api.Type{typ("'a{c,e}")}, api.ErrSort}, {numbers(), nil, []api.Term{x, x}, []api.Type{zero, {Op: 9}}, api.ErrForm},
		{numbers(), []infer.Known{{"k", typ("'a{c}")}}, []api.Term{free("x", "'a")}, []api.Type{zero}, api.ErrSort}, {numbers(), nil, []api.Term{free("x", "'a")}, []api.Type{typ("'a{d}")}, api.ErrSort}, {numbers(), []infer.Known{{"k", typ("'a{c}")}, {"j", typ("'a")}}, nil, nil, api.ErrSort}, {numbers(), []infer.Known{{"k", typ("'a{c}")}, {"j", typ("'a")}}, []api.Term{free("x", "set")}, []api.Type{zero}, api.ErrMissing},
		{numbers(), nil, []api.Term{app(cst("none", ""), free("x", "set"))}, []api.Type{zero}, api.ErrMissing},
		// where they are met
		{numbers(), nil, []api.Term{cst("none", "")}, []api.Type{zero}, infer.ErrUnknown}, {numbers(), nil, []api.Term{cst("none", "nat")}, []api.Type{typ("prop")}, infer.ErrUnknown}, {numbers(), nil, []api.Term{app(x, x), cst("none", "")}, []api.Type{zero, zero}, api.ErrType}, {numbers(), nil, []api.Term{app(cst("none", ""), app(x, x))}, []api.Type{zero}, infer.ErrUnknown}, {numbers(), nil, []api.Term{app(app(x, x), cst("none", ""))}, []api.Type{zero}, api.ErrType},
		{numbers(), nil, []api.Term{app(cst("zero", ""), cst("none", ""))}, []api.Type{zero}, infer.ErrUnknown}, {numbers(), nil, []api.Term{cst("zero", ""), cst("none", "")}, []api.Type{typ("prop"), zero}, api.ErrType}, {numbers(), nil, []api.Term{is("prop", app(cst("zero", ""), x))}, []api.Type{zero}, api.ErrType},
		{numbers(), nil, []api.Term{app(cst("zero", ""), x)}, []api.Type{zero}, api.ErrType}, {numbers(), nil, []api.Term{cst("zero", "prop")}, []api.Type{zero}, api.ErrType}, {numbers(), nil, []api.Term{cst("nil", "list(?a.0)")}, []api.Type{typ("list(nat)")}, api.ErrType}, {numbers(), nil, []api.Term{is("'a", x), is("'b", x)}, []api.Type{zero, zero}, api.ErrType}, {numbers(), nil, []api.Term{is("?a.0", x), is("?a.1", x)}, []api.Type{zero, zero}, api.ErrType},
		{numbers(), nil, []api.Term{app(cst("dup", ""), cst("zero", ""))}, []api.Type{zero}, api.ErrSort}, {numbers(), nil, []api.Term{cst("size", "fun(prop, nat)")}, []api.Type{zero}, api.ErrSort}, {numbers(), nil, []api.Term{cst("size", "fun('a, nat)")}, []api.Type{zero}, api.ErrSort}, {numbers(), nil, []api.Term{app(cst("size", ""), is("'a", x))}, []api.Type{zero}, api.ErrSort}, {numbers(), nil, []api.Term{app(cst("size", ""), is("?a.1{d}", x))}, []api.Type{zero}, api.ErrSort}, {numbers(), nil, []api.Term{app(cst("size", ""), x), x}, []api.Type{zero, typ("fun(nat, nat)")}, api.ErrSort},
		{numbers(), nil, []api.Term{big}, []api.Type{zero}, api.ErrLarge}, {numbers(), nil, []api.Term{app(big, cst("none", ""))}, []api.Type{zero}, api.ErrLarge},
		// the check of a result: two types of one variable, names and numbers that are none
		{numbers(), nil, []api.Term{app(cst("two", ""), x, free("x", "nat"))}, []api.Type{zero}, api.ErrType}, {numbers(), nil, []api.Term{sch("x", 1000001, "")}, []api.Type{zero}, api.ErrRange}, {numbers(), nil, []api.Term{sch("x", 1000001, ""), {Op: api.Abs, Name: "1", Kids: []api.Term{y}}}, []api.Type{zero, zero}, api.ErrRange}, {numbers(), nil, []api.Term{{Op: api.Abs, Name: "1", Kids: []api.Term{y}}}, []api.Type{zero}, api.ErrForm},
	} {
		r, e := infer.Terms(c.thy, c.known, c.raw, c.want)
		if e != c.e || e != api.OK && r != nil {
			t.Error(i, e, c.e)
		}
		if len(c.raw) == 1 && len(c.want) == 1 {
			if r, f := infer.Term(c.thy, c.known, c.raw[0], c.want[0]); f != c.e || !term.Equal(r, api.Term{}) {
				t.Error(i, "Term", f)
			}
		}
	}
}

// sized returns a type of so many nodes.
func sized(n int) api.Type {
	switch n {
	case 1:
		return typ("nat")
	case 2:
		return typ("list(nat)")
	}
	half := (n - 1) / 2
	return api.Type{Op: api.TCon, Name: "pair", Args: []api.Type{sized(half), sized(n - 1 - half)}}
}

// TestLarge lets variables stand for types of many nodes, at once and by what stands for others.
func TestLarge(t *testing.T) {
	thy, e := theory.Extend(numbers(), "U", api.Theory{Consts: []api.ConstDecl{{Name: "same", Type: typ("pair(?b.0, ?b.0)")}, {Name: "large", Type: sized(2001)}}})
	if e != api.OK {
		t.Fatal(e)
	}
	x := free("x", "")
	eq := app(cst("eq", ""), x, cst("same", "")) // x stands for pair(b, b), and a variable for fun(pair(b, b), prop)
	at := func(t api.Type) api.Term { return api.Term{Op: infer.Constraint, Type: t, Kids: []api.Term{x}} }
	pair := func(n int) api.Type {
		return api.Type{Op: api.TCon, Name: "pair", Args: []api.Type{sized(n), sized(n)}}
	}
	for i, c := range []struct {
		raw []api.Term
		e   api.Errno
	}{
		{[]api.Term{at(sized(2000))}, api.OK}, {[]api.Term{at(sized(2001))}, api.ErrLarge}, {[]api.Term{{Op: api.Free, Name: "k", Type: sized(2001)}}, api.OK}, {[]api.Term{{Op: api.Abs, Type: sized(2001), Kids: []api.Term{bound(0)}}}, api.OK},
		{[]api.Term{cst("large", "")}, api.OK}, {[]api.Term{{Op: api.Const, Name: "large", Type: sized(2001)}}, api.OK}, {[]api.Term{{Op: api.Const, Name: "any", Type: sized(2001)}}, api.ErrLarge}, {[]api.Term{app(cst("size", ""), cst("large", ""))}, api.ErrSort}, {[]api.Term{app(cst("two", ""), cst("large", ""))}, api.ErrLarge},
		{[]api.Term{app(api.Term{Op: api.Free, Name: "f", Type: types.Fun(sized(2001), typ("nat"))}, cst("large", ""))}, api.OK}, {[]api.Term{app(api.Term{Op: api.Free, Name: "f", Type: types.Fun(typ("nat"), sized(2001))}, cst("zero", ""))}, api.ErrLarge}, {[]api.Term{app(api.Term{Op: api.Free, Name: "f", Type: types.Fun(typ("nat"), sized(2000))}, cst("zero", ""))}, api.OK},
		{[]api.Term{eq, at(pair(998))}, api.OK}, {[]api.Term{eq, at(pair(999))}, api.ErrLarge}, {[]api.Term{at(pair(998)), eq}, api.OK}, {[]api.Term{at(pair(999)), eq}, api.ErrLarge}, {[]api.Term{eq, at(pair(999)), cst("none", "")}, api.ErrLarge}, {[]api.Term{eq, cst("none", ""), at(pair(999))}, infer.ErrUnknown},
		// what occurs in itself is no type, however large
		{[]api.Term{app(x, x)}, api.ErrType}, {[]api.Term{app(api.Term{Op: api.Free, Name: "f", Type: types.Fun(sized(2001), typ("nat"))}, app(x, x))}, api.ErrType},
	} {
		if _, e := infer.Terms(thy, nil, c.raw, make([]api.Type, len(c.raw))); e != c.e {
			t.Error(i, e, c.e)
		}
	}
}

func TestChoose(t *testing.T) {
	x, no, other := free("x", ""), app(cst("zero", ""), free("x", "")), cst("none", "")
	for i, c := range []struct {
		l  []api.Term
		at int
		e  api.Errno
	}{
		{nil, 0, api.ErrMissing}, {[]api.Term{x}, 0, api.OK}, {[]api.Term{no, x}, 1, api.OK}, {[]api.Term{no, other}, 0, api.ErrType}, {[]api.Term{other, no}, 0, infer.ErrUnknown}, {[]api.Term{x, no, other}, 0, api.OK}, {[]api.Term{x, no, x}, 0, infer.ErrAmbiguous}, {[]api.Term{no, x, x}, 0, infer.ErrAmbiguous}, {append(slices.Repeat([]api.Term{no}, 100), x), 100, api.OK}, {[]api.Term{{}, no}, 0, api.ErrForm},
	} {
		r, at, e := infer.Choose(numbers(), nil, c.l, typ("nat"))
		s, _ := term.Text(r)
		if at != c.at || e != c.e || (e == api.OK) != (s == "$x:nat") || e != api.OK && !term.Equal(r, api.Term{}) {
			t.Error(i, s, at, e)
		}
	}
	if _, _, e := infer.Choose(api.Theory{}, nil, nil, api.Type{}); e != api.ErrMissing {
		t.Error(e)
	}
	if _, _, e := infer.Choose(api.Theory{}, nil, []api.Term{x}, api.Type{}); e != api.ErrForm {
		t.Error(e)
	}
	if _, _, e := infer.Choose(numbers(), make([]infer.Known, 61), []api.Term{x, x}, api.Type{}); e != api.ErrCount {
		t.Error(e)
	}
}

func TestErase(t *testing.T) {
	x := free("x", "nat")
	odd := api.Term{Op: infer.Constraint, Name: "n", Type: typ("nat"), Kids: []api.Term{x, is("nat", x)}}
	for i, c := range []struct{ t, want api.Term }{
		{x, free("x", "")}, {cst("c", "nat"), cst("c", "")}, {sch("x", 3, "nat"), sch("x", 3, "")}, {abs("nat", bound(0)), abs("", bound(0))}, {is("nat", is("nat", app(x, x))), app(free("x", ""), free("x", ""))}, {api.Term{}, api.Term{}},
		{odd, api.Term{Op: infer.Constraint, Name: "n", Type: typ("nat"), Kids: []api.Term{free("x", ""), free("x", "")}}}, {api.Term{Op: infer.Constraint, Type: typ("nat")}, api.Term{Op: infer.Constraint, Type: typ("nat")}}, {api.Term{Op: 99, Num: -1, Kids: []api.Term{x}}, api.Term{Op: 99, Num: -1, Kids: []api.Term{free("x", "")}}}, {api.Term{Op: infer.Constraint, Kids: []api.Term{x}}, free("x", "")},
		{api.Term{Op: api.Const, Name: "c", Type: typ("nat"), Kids: []api.Term{x}}, api.Term{Op: api.Const, Name: "c", Kids: []api.Term{free("x", "")}}},
	} {
		if r := infer.Erase(c.t); !term.Equal(r, c.want) {
			t.Error(i, r)
		}
	}
	if r := infer.Erase(abs("nat", bound(0))); r.Name != "x" {
		t.Error(r)
	}
}

func TestPinned(t *testing.T) {
	known := []infer.Known{{"n", typ("nat")}, {"f", typ("fun('a, prop)")}}
	for i, c := range []struct{ t, want string }{
		{`$x:nat`, "F x nat"}, {`$x:'a`, "F x 'a"}, {`$x:'b`, "F x"}, {`$n:nat`, "F n"}, {`zero:nat`, "C zero"}, {`nil:list(nat)`, "C nil list(nat)"}, {`nil:list('b)`, "C nil"}, {`?x.2:nat`, "V x.2 nat"}, {`(\x:nat . #0)`, "(\\nat #0)"}, {`(\x:'b . #0)`, "(\\ #0)"},
		{`((eq:fun(nat, fun(nat, prop)) $x:nat) $x:nat)`, "((C eq F x) F x nat)"}, {`((eq:fun(nat, fun(nat, prop)) $x:nat) zero:nat)`, "((C eq F x) C zero)"}, {`((eq:fun(nat, fun(nat, prop)) nil:list(nat)) nil:list(nat))`, ""}, {`((two:fun(list(nat), fun(nat, prop)) nil:list(nat)) $n:nat)`, "((C two C nil list(nat)) F n)"},
		// the types of two variables of one name do not meet
		{`((two:fun(nat, fun(nat, prop)) $x:nat) $x:nat)`, "((C two F x nat) F x nat)"}, {`((cons:fun(nat, fun(list(nat), list(nat))) $x:nat) $y:list(nat))`, "((C cons F x) F y list(nat))"}, {`($f:fun('a, prop) $z:'a)`, "(F f F z)"}, {`(\x:nat . (size:fun(nat, nat) #0))`, "(\\ (C size fun(nat, nat) #0))"}, {`(size:fun('b{c}, nat) $x:'b{c})`, "(C size F x)"}, {`(size:fun('c{c}, nat) $x:'c{c})`, "(C size F x 'c{c})"},
	} {
		x, e := term.Read(c.t)
		if e != api.OK {
			t.Fatal(i, e)
		}
		r, e := infer.Pinned(numbers(), known, x)
		if c.want == "" {
			if e != api.ErrType || !term.Equal(r, api.Term{}) {
				t.Error(i, e)
			}
			continue
		}
		if got := pinText(r); got != c.want || e != api.OK {
			t.Error(i, got, e)
		}
		if back, e := infer.Term(numbers(), known, r, api.Type{}); e != api.OK || !term.Equal(back, x) {
			t.Error(i, "back", e)
		}
	}
}

// pinText returns a text of a raw term with those types that are there.
func pinText(t api.Term) string {
	s := ""
	if t.Type.Op != 0 {
		s, _ = types.Text(t.Type)
		s = " " + s
	}
	switch t.Op {
	case api.App:
		return "(" + pinText(t.Kids[0]) + " " + pinText(t.Kids[1]) + ")"
	case api.Abs:
		return "(\\" + strings.TrimSpace(s) + " " + pinText(t.Kids[0]) + ")"
	case api.Bound:
		return "#" + string(rune('0'+t.Num))
	case api.Var:
		return "V " + t.Name + "." + string(rune('0'+t.Num)) + s
	case api.Free:
		return "F " + t.Name + s
	}
	return "C " + t.Name + s
}

func TestPinnedErrors(t *testing.T) {
	wrong, ill := numbers(), numbers()
	wrong.Consts[0].Name = "1"
	ill.Name = ""
	large := typ("list(nat)")
	for range 10 {
		large = types.Fun(large, large)
	}
	id := api.Term{Op: api.Const, Name: "any", Type: large}
	for i, c := range []struct {
		thy   api.Theory
		known []infer.Known
		t     api.Term
		e     api.Errno
	}{
		{wrong, nil, api.Term{}, api.ErrForm}, {numbers(), nil, free("x", ""), api.ErrForm}, {numbers(), nil, is("nat", free("x", "nat")), api.ErrForm}, {numbers(), nil, cst("none", "nat"), api.ErrMissing}, {ill, nil, bound(0), term.ErrLoose}, {ill, nil, free("x", "nat"), api.ErrForm}, {numbers(), make([]infer.Known, 61), free("x", "nat"), api.ErrCount},
		{numbers(), []infer.Known{{"y", typ("'a{c}")}}, free("x", "'a"), api.ErrSort}, {numbers(), []infer.Known{{}}, free("x", "'a"), api.ErrForm}, {numbers(), nil, id, api.ErrLarge}, {numbers(), nil, api.Term{Op: api.Free, Name: "x", Type: large}, api.OK},
	} {
		r, e := infer.Pinned(c.thy, c.known, c.t)
		if e != c.e || e != api.OK && !term.Equal(r, api.Term{}) {
			t.Error(i, e, c.e)
		}
	}
}

// TestMemory changes results, which share nothing with what was given.
func TestMemory(t *testing.T) {
	raw := app(is("fun(list('q{c}), prop)", free("f", "")), free("x", ""))
	want := typ("prop")
	known := []infer.Known{{"g", typ("'q{c}")}}
	r, _ := infer.Term(numbers(), known, raw, want)
	p, _ := infer.Pinned(numbers(), known, r)
	for _, x := range []api.Term{r, infer.Erase(raw), p} {
		for n := range term.Nodes(&x) {
			for u := range types.Nodes(&n.Type) {
				u.Name = "spoilt"
				if len(u.Sort) > 0 {
					u.Sort[0] = "spoilt"
				}
			}
			n.Name = "spoilt"
		}
	}
	if again, _ := infer.Term(numbers(), known, raw, want); texts([]api.Term{again}) != "($f:fun(list('q{c}), prop) $x:list('q{c}))" {
		t.Error(texts([]api.Term{again}))
	}
}
