package mixfix_test

import (
	"fmt"
	"math"
	"slices"
	"strings"
	"testing"

	"triforium/api"
	"triforium/grammar"
	"triforium/infer"
	"triforium/mixfix"
	"triforium/sort"
	"triforium/term"
	"triforium/theory"
	"triforium/token"
	"triforium/types"
)

func typ(s string) api.Type {
	t, e := types.Read(s)
	if e != api.OK {
		panic(s)
	}
	return t
}

// numbers is a theory with numbers, lists, pairs and a class.
func numbers() api.Theory {
	consts := []api.ConstDecl{}
	for _, c := range [][2]string{
		{"zero", "nat"}, {"plus", "fun(nat, fun(nat, nat))"}, {"times", "fun(nat, fun(nat, nat))"}, {"power", "fun(nat, fun(nat, nat))"}, {"neg", "fun(nat, nat)"}, {"fact", "fun(nat, nat)"}, {"nil", "list(?a.0)"}, {"cons", "fun(?a.0, fun(list(?a.0), list(?a.0)))"}, {"one", "fun(?a.0, list(?a.0))"},
		{"if", "fun(prop, fun(?a.0, fun(?a.0, ?a.0)))"}, {"size", "fun(?a.0{c}, nat)"}, {"sum", "fun(fun(nat, nat), nat)"}, {"the", "fun(fun(?a.0, prop), ?a.0)"}, {"pair", "fun(?a.0, fun(?b.0, pair(?a.0, ?b.0)))"}, {"id", "fun(?a.0, ?a.0)"}, {"a.b", "nat"}, {"two", "fun(?a.0, fun(?b.0, prop))"},
	} {
		consts = append(consts, api.ConstDecl{Name: c[0], Type: typ(c[1])})
	}
	thy, e := theory.Extend(theory.Pure(), "T", api.Theory{
		Classes: []api.Class{{Name: "c"}, {Name: "d"}},
		Types:   []api.TypeDecl{{Name: "nat"}, {Name: "list", Arity: 1}, {Name: "pair", Arity: 2}},
		Arities: []api.Arity{{Type: "nat", Class: "c"}}, Consts: consts,
	})
	if e != api.OK {
		panic(e)
	}
	return thy
}

// infix, mix and binder return notations.
func infix(c string, kind int, w string, prio int) mixfix.Notation {
	return mixfix.Notation{Const: c, Kind: kind, Words: []string{w}, Prio: prio}
}

// mix returns a notation whose words and priorities stand in a text, with _ for the empty word.
func mix(c, words string, prio int, prios ...int) mixfix.Notation {
	l := strings.Fields(strings.ReplaceAll(words, "_", " \x00 "))
	for i := range l {
		l[i] = strings.Trim(l[i], "\x00")
	}
	return mixfix.Notation{Const: c, Kind: mixfix.Mixfix, Words: l, Prios: prios, Prio: prio}
}

// notations are those of numbers.
func notations() []mixfix.Notation {
	return append(mixfix.Pure(),
		infix("plus", mixfix.Infixl, "+", 65), infix("times", mixfix.Infixl, "*", 70), infix("power", mixfix.Infixr, "^", 80), mix("neg", "- _", 75, 75), mix("fact", "_ !", 90, 90), infix("cons", mixfix.Infixr, "#", 65), mix("nil", "nothing", 1000), mix("one", "[ ]", 1000, 0),
		mix("if", "if then else _", 10, 0, 0, 10), infix("sum", mixfix.Binder, "SUM", 10), infix("the", mixfix.Binder, "THE", 10), mix("pair", "( , )", 1000, 0, 0))
}

func TestExamples(t *testing.T) {
	a, b, c := prop("A"), prop("B"), prop("C")
	x, e := mixfix.Read(theory.Pure(), mixfix.Pure(), nil, "!!x. x == x ==> A", api.Type{})
	y, f := mixfix.Read(theory.Pure(), mixfix.Pure(), nil, "!!x. ((x == x) ==> A)", types.Prop())
	if s, _ := term.Text(x); e != api.OK || f != api.OK || !term.Equal(x, y) || s != `(all:fun(fun('a, prop), prop) (\x:'a . ((imp:fun(prop, fun(prop, prop)) ((eq:fun('a, fun('a, prop)) #0) #0)) $A:prop)))` {
		t.Error(s, e, f)
	}
	if s, e := mixfix.Print(theory.Pure(), mixfix.Pure(), nil, term.Imp(a, term.Imp(b, c))); s != "A ==> B ==> C" || e != api.OK {
		t.Error(s, e)
	}
	if s, e := mixfix.Print(theory.Pure(), mixfix.Pure(), nil, term.Imp(term.Imp(a, b), c)); s != "(A ==> B) ==> C" || e != api.OK {
		t.Error(s, e)
	}
	if s, e := mixfix.TypeText(typ("fun(fun('a, 'b), list('a))")); s != "('a => 'b) => 'a list" || e != api.OK {
		t.Error(s, e)
	}
}

func prop(name string) api.Term {
	return api.Term{Op: api.Free, Name: name, Type: types.Prop()}
}

func TestCheck(t *testing.T) {
	good := mixfix.Notation{Const: "c", Kind: mixfix.Mixfix, Words: []string{"a", "", `\<and>`}, Prios: []int{0, 1000}, Prio: 1000}
	with := func(f func(*mixfix.Notation)) mixfix.Notation {
		n := good
		n.Words, n.Prios = slices.Clone(n.Words), slices.Clone(n.Prios)
		f(&n)
		return n
	}
	var many, wordy []mixfix.Notation
	for i := range 201 {
		many = append(many, infix(fmt.Sprint("c", i), mixfix.Infix, "+", 0))
		wordy = append(wordy, mixfix.Notation{Const: "c", Kind: mixfix.Mixfix, Words: []string{fmt.Sprint("a", i), fmt.Sprint("b", i)}, Prios: []int{0}})
	}
	ten := slices.Repeat([]int{0}, 10)
	for i, c := range []struct {
		l []mixfix.Notation
		e api.Errno
	}{
		{nil, api.OK}, {notations(), api.OK}, {[]mixfix.Notation{good}, api.OK}, {many[:200], api.OK}, {many, api.ErrCount}, {make([]mixfix.Notation, 201), api.ErrCount}, {[]mixfix.Notation{with(func(n *mixfix.Notation) { n.Const = "a.b" })}, api.OK}, {[]mixfix.Notation{with(func(n *mixfix.Notation) { n.Words[0] = "" })}, api.OK},
		{[]mixfix.Notation{{Const: "c", Kind: mixfix.Mixfix, Words: slices.Repeat([]string{"."}, 11), Prios: ten}}, api.OK}, {[]mixfix.Notation{{Const: "c", Kind: mixfix.Mixfix, Words: slices.Repeat([]string{"."}, 12), Prios: append(ten, 0)}}, mixfix.ErrNotation}, {[]mixfix.Notation{{Const: "c", Kind: mixfix.Mixfix, Words: []string{"a"}}}, api.OK},
		// what is wrong
		{[]mixfix.Notation{{}}, mixfix.ErrNotation}, {[]mixfix.Notation{with(func(n *mixfix.Notation) { n.Const = "1" })}, mixfix.ErrNotation}, {[]mixfix.Notation{with(func(n *mixfix.Notation) { n.Kind = 0 })}, mixfix.ErrNotation}, {[]mixfix.Notation{with(func(n *mixfix.Notation) { n.Kind = 6 })}, mixfix.ErrNotation}, {[]mixfix.Notation{with(func(n *mixfix.Notation) { n.Prio = -1 })}, mixfix.ErrNotation}, {[]mixfix.Notation{with(func(n *mixfix.Notation) { n.Prio = 1001 })}, mixfix.ErrNotation},
		{[]mixfix.Notation{with(func(n *mixfix.Notation) { n.Prios[1] = 1001 })}, mixfix.ErrNotation}, {[]mixfix.Notation{with(func(n *mixfix.Notation) { n.Prios[0] = -1 })}, mixfix.ErrNotation}, {[]mixfix.Notation{with(func(n *mixfix.Notation) { n.Prios = n.Prios[:1] })}, mixfix.ErrNotation}, {[]mixfix.Notation{with(func(n *mixfix.Notation) { n.Words = n.Words[:2] })}, mixfix.ErrNotation}, {[]mixfix.Notation{with(func(n *mixfix.Notation) { n.Words = nil; n.Prios = nil })}, mixfix.ErrNotation},
		{[]mixfix.Notation{with(func(n *mixfix.Notation) { n.Words = []string{"", "", ""} })}, mixfix.ErrNotation}, {[]mixfix.Notation{with(func(n *mixfix.Notation) { n.Words[2] = "a.b" })}, mixfix.ErrNotation}, {[]mixfix.Notation{with(func(n *mixfix.Notation) { n.Words[2] = "()" })}, mixfix.ErrNotation}, {[]mixfix.Notation{with(func(n *mixfix.Notation) { n.Words[2] = strings.Repeat("a", 41) })}, mixfix.ErrNotation}, {[]mixfix.Notation{with(func(n *mixfix.Notation) { n.Words[2] = `\<open>` })}, mixfix.ErrNotation},
		{[]mixfix.Notation{infix("c", mixfix.Infix, "+", 999), infix("c", mixfix.Infixl, "+", 999), infix("c", mixfix.Infixr, "+", 999), infix("c", mixfix.Binder, "+", 1000)}, api.OK}, {[]mixfix.Notation{infix("c", mixfix.Infix, "+", 1000)}, mixfix.ErrNotation}, {[]mixfix.Notation{infix("c", mixfix.Infixl, "+", 1000)}, mixfix.ErrNotation}, {[]mixfix.Notation{infix("c", mixfix.Infixr, "+", 1000)}, mixfix.ErrNotation}, {[]mixfix.Notation{infix("c", mixfix.Binder, "+", 1001)}, mixfix.ErrNotation},
		{[]mixfix.Notation{infix("c", mixfix.Binder, "", 0)}, mixfix.ErrNotation}, {[]mixfix.Notation{{Const: "c", Kind: mixfix.Infix, Words: []string{"a", "b"}}}, mixfix.ErrNotation}, {[]mixfix.Notation{{Const: "c", Kind: mixfix.Infix, Words: []string{"a"}, Prios: []int{0}}}, mixfix.ErrNotation}, {[]mixfix.Notation{{Const: "c", Kind: mixfix.Infix}}, mixfix.ErrNotation},
		{[]mixfix.Notation{{Const: "c", Kind: math.MinInt, Words: []string{"a"}}}, mixfix.ErrNotation},
		// one by one
		{[]mixfix.Notation{good, good}, api.ErrDuplicate}, {[]mixfix.Notation{good, good, {}}, api.ErrDuplicate}, {[]mixfix.Notation{good, {}, good}, mixfix.ErrNotation}, {[]mixfix.Notation{good, with(func(n *mixfix.Notation) { n.Prio = 7 }), with(func(n *mixfix.Notation) { n.Prios[0] = 7 }), with(func(n *mixfix.Notation) { n.Const = "d" }), with(func(n *mixfix.Notation) { n.Words[1] = "x" })}, api.OK},
		{wordy[:195], api.OK}, {wordy[:196], api.ErrCount}, {append(wordy[:196:196], wordy[0]), api.ErrDuplicate},
	} {
		if e := mixfix.Check(c.l); e != c.e {
			t.Error(i, e, c.e)
		}
		g, e := mixfix.Grammar(c.l)
		if e != c.e || (e == api.OK) != (len(g) == 26+len(c.l)) || grammar.Check(g) != api.OK {
			t.Error(i, "Grammar", e)
		}
		if c.e == api.OK {
			continue
		}
		if l, at, e := mixfix.Readings(c.l, "?", 0); l != nil || at != 0 || e != c.e {
			t.Error(i, "Readings", e)
		}
		if _, e := mixfix.Read(theory.Pure(), c.l, nil, "?", api.Type{}); e != c.e {
			t.Error(i, "Read", e)
		}
		if s, e := mixfix.Print(api.Theory{}, c.l, nil, api.Term{}); s != "" || e != c.e {
			t.Error(i, "Print", e)
		}
	}
}

func TestPureKeywords(t *testing.T) {
	p := mixfix.Pure()
	if len(p) != 3 || p[0].Const != "imp" || p[0].Kind != mixfix.Infixr || p[0].Words[0] != "==>" || p[0].Prio != 1 || p[1].Const != "all" || p[1].Kind != mixfix.Binder || p[1].Words[0] != "!!" || p[1].Prio != 0 || p[2].Const != "eq" || p[2].Kind != mixfix.Infix || p[2].Words[0] != "==" || p[2].Prio != 2 {
		t.Error(p)
	}
	p[0].Words[0] = "spoilt"
	if mixfix.Pure()[0].Words[0] != "==>" {
		t.Error("memory")
	}
	for i, c := range []struct {
		l    []mixfix.Notation
		want string
	}{
		{nil, "% ( ) , . :: => { }"}, {mixfix.Pure(), "!! % ( ) , . :: == ==> => { }"}, {[]mixfix.Notation{{Words: []string{"", "no word", "", "(", "a", "a"}}}, "% ( ) , . :: => a no word { }"},
	} {
		if s := strings.Join(mixfix.Keywords(c.l), " "); s != c.want {
			t.Error(i, s)
		}
	}
}

func TestGrammar(t *testing.T) {
	g, e := mixfix.Grammar(append(mixfix.Pure(), mix("if", "if then else _", 10, 0, 1, 10), mix("f", "_ _ x", 7, 8, 9), infix("p", mixfix.Infixl, "+", 65), mix("n", "nothing", 5)))
	var l []string
	for _, p := range g {
		s := fmt.Sprintf("%s %d %s:", p.Left, p.Prio, p.Name)
		for _, i := range p.Items {
			switch i.Kind {
			case grammar.Word:
				s += " `" + i.Text + "`"
			case grammar.Category:
				s += " <" + i.Text + ">"
			case grammar.Symbol:
				s += fmt.Sprintf(" %s %d", i.Text, i.Prio)
			}
		}
		l = append(l, s)
	}
	want := strings.Split(strings.TrimSpace(`
term 1000 name: <id>
term 1000 var: <var>
term 1000 brackets: `+"`(` term 0 `)`"+`
term 999 app: term 999 term 1000
term 3 abs: `+"`%` idts 0 `.` term 3"+`
term 3 typed: term 4 `+"`::`"+` type 0
idts 0 one: idt 0
idts 0 more: idt 0 idts 0
idt 0 name: <id>
idt 0 typed: `+"`(` <id> `::` type 0 `)`"+`
type 1000 tfree: <tfree>
type 1000 sorted: <tfree> `+"`::`"+` sort 0
type 1000 tvar: <tvar>
type 1000 sorted: <tvar> `+"`::`"+` sort 0
type 1000 name: <id>
type 1000 brackets: `+"`(` type 0 `)`"+`
type 999 app: type 999 <id>
type 999 apps: `+"`(` type 0 `,` types 0 `)`"+` <id>
type 0 fun: type 1 `+"`=>`"+` type 0
types 0 one: type 0
types 0 more: type 0 `+"`,`"+` types 0
sort 0 one: <id>
sort 0 none: `+"`{` `}`"+`
sort 0 some: `+"`{` ids 0 `}`"+`
ids 0 one: <id>
ids 0 more: <id> `+"`,`"+` ids 0
term 1 imp: term 2 `+"`==>`"+` term 1
term 0 all: `+"`!!` idts 0 `.`"+` term 0
term 2 eq: term 3 `+"`==`"+` term 3
term 10 if: `+"`if` term 0 `then` term 1 `else`"+` term 10
term 7 f: term 8 term 9 `+"`x`"+`
term 65 p: term 65 `+"`+`"+` term 66
term 5 n: `+"`nothing`"), "\n")
	if e != api.OK || !slices.Equal(l, want) {
		t.Error(e, strings.Join(l, "\n"))
	}
}

// raw returns the text of a raw term: open types are left out.
func raw(t api.Term) string {
	s := ""
	if t.Type.Op != 0 {
		s, _ = types.Text(t.Type)
		s = ":" + s
	}
	switch t.Op {
	case api.Const:
		return "!" + t.Name + s
	case api.Free:
		return t.Name + s
	case api.Var:
		return fmt.Sprint("?", t.Name, ".", t.Num, s)
	case api.Bound:
		return fmt.Sprint("#", t.Num)
	case api.Abs:
		return "(\\" + t.Name + s + " " + raw(t.Kids[0]) + ")"
	case infer.Constraint:
		return "<" + raw(t.Kids[0]) + s + ">"
	}
	return "(" + raw(t.Kids[0]) + " " + raw(t.Kids[1]) + ")"
}

func TestReadings(t *testing.T) {
	l := append(notations(), infix("times", mixfix.Infixl, "+", 65), mix("id", "if then _", 10, 0, 10), mix("two", "< >", 9, 0), mix("two", "< |> _", 9, 0, 7))
	for i, c := range []struct{ text, want string }{
		{"x", "x"}, {"a.b", "a.b"}, {"?x", "?x.0"}, {"?x.12", "?x.12"}, {"((x))", "x"}, {"f x y", "((f x) y)"}, {"f (x y)", "(f (x y))"}, {"%x. x", "(\\x #0)"}, {"%x y x. x y z", "(\\x (\\y (\\x ((#0 #1) z))))"}, {"%(x :: nat) y. x", "(\\x:nat (\\y #1))"}, {"%a.b. a.b", "(\\a.b #0)"}, {"%x. x == y", "((!eq (\\x #0)) y)"},
		{"x :: nat", "<x:nat>"}, {"f x :: 'a => nat", "<(f x):fun('a, nat)>"}, {"%x. x :: nat", "(\\x <#0:nat>)"}, {"(x :: nat) :: 'a :: c", "<<x:nat>:'a{c}>"}, {"x :: ?'a.3 :: {d, c, d}", "<x:?a.3{c,d}>"}, {"x :: ?'a :: {}", "<x:?a.0>"}, {"x :: ('a, nat list, prop) t list", "<x:list(t('a, list(nat), prop))>"}, {"x :: (nat => nat) => nat => 'a::c list", "<x:fun(fun(nat, nat), fun(nat, list('a{c})))>"}, {"x :: ((nat))", "<x:nat>"},
		{"A ==> B ==> C", "((!imp A) ((!imp B) C))"}, {"!!x y. x", "(!all (\\x (!all (\\y #1))))"}, {"!!(x :: nat). x == x", "(!all (\\x:nat ((!eq #0) #0)))"}, {"x * y * z", "((!times ((!times x) y)) z)"}, {"x ^ y ^ z", "((!power x) ((!power y) z))"}, {"- - x", "(!neg (!neg x))"}, {"- x !", "(!neg (!fact x))"}, {"- x * y", "((!times (!neg x)) y)"}, {"nothing", "!nil"}, {"[x] # nothing", "((!cons (!one x)) !nil)"}, {"(x, y)", "((!pair x) y)"},
		{"SUM x (y :: nat). x * y", "(!sum (\\x (!sum (\\y:nat ((!times #1) #0)))))"}, {"imp", "imp"}, {"x (* (* *) *) y", "(x y)"},
		// several readings, in order
		{"x + y", "((!plus x) y) ((!times x) y)"}, {"if A then if B then x else y", "(((!if A) ((!id B) x)) y) ((!id A) (((!if B) x) y))"}, {"< x |> y", "((!two x) y)"}, {"< x >", "(!two x)"}, {"x + y + z", "((!plus ((!plus x) y)) z) ((!plus ((!times x) y)) z) ((!times ((!plus x) y)) z) ((!times ((!times x) y)) z)"},
	} {
		r, at, e := mixfix.Readings(l, c.text, 100)
		var got []string
		for _, x := range r {
			got = append(got, raw(x))
		}
		if s := strings.Join(got, " "); s != c.want || at != 0 || e != api.OK {
			t.Errorf("%d %s: %s %v", i, c.text, s, e)
		}
	}
	// equal readings once; the first trees
	twice := append(mixfix.Pure(), mix("eq", "_ == _", 2, 3, 3))
	if r, _, e := mixfix.Readings(twice, "x == y", 100); len(r) != 1 || e != api.OK {
		t.Error(len(r), e)
	}
	for most := 1; most < 6; most++ {
		if r, _, e := mixfix.Readings(l, "x + y + z", most); len(r) != min(4, most) || e != api.OK {
			t.Error(most, len(r), e)
		}
	}
}

func TestReadingsErrors(t *testing.T) {
	long := strings.Repeat("a", 41)
	for i, c := range []struct {
		text string
		most int
		at   int
		e    api.Errno
	}{
		{"?", 0, 0, api.ErrRange}, {"x", 101, 0, api.ErrRange}, {"x", -1, 0, api.ErrRange}, {"x", 100, 0, api.OK}, {"x ?", 1, 2, token.ErrByte}, {`x "y`, 1, 2, token.ErrString}, {"(*", 1, 0, token.ErrComment}, {strings.Repeat(" ", api.MaxText+1), 1, 0, api.ErrLarge},
		{strings.Repeat("x ", 201), 1, 0, api.ErrCount}, {strings.Repeat(long+" ", 201), 1, 0, api.ErrCount}, {strings.Repeat("x ", 200), 1, 0, api.OK},
		{") " + long, 1, 2, api.ErrText}, {"x ?" + long, 1, 2, api.ErrText}, {"x :: '" + long, 1, 5, api.ErrText}, {"x :: ?'" + long + ".1", 1, 5, api.ErrText}, {"a." + long[:39], 1, 0, api.ErrText}, {"a." + long[:38], 1, 0, api.OK}, {long[:40] + " ?" + long[:40] + ".0", 1, 0, api.OK}, {"x :: '" + long[:40], 1, 0, api.OK},
		{"?x.01", 1, 0, api.ErrText}, {"?x.0", 1, 0, api.OK}, {"?x.00", 1, 0, api.ErrText}, {"?x.1000000", 1, 0, api.OK}, {"?x.1000001", 1, 0, api.ErrText}, {"?x.10000000", 1, 0, api.ErrText}, {"x :: ?'a.01", 1, 5, api.ErrText}, {"x :: ?'a.1000000", 1, 0, api.OK}, {"?x.99999999999999999999", 1, 0, api.ErrText},
		{"", 1, 0, api.ErrText}, {" ", 1, 1, api.ErrText}, {"x ==> ", 1, 6, api.ErrText}, {"x )", 1, 2, api.ErrText}, {"( x y", 1, 5, api.ErrText}, {"f 1 x", 1, 2, api.ErrText}, {`f "x" x`, 1, 2, api.ErrText}, {`f \<open>x\<close>`, 1, 2, api.ErrText}, {"x == y == z", 1, 7, api.ErrText}, {"%x y", 1, 4, api.ErrText}, {"x :: 'a 'b", 1, 8, api.ErrText}, {"x + y", 1, 2, api.ErrText}, {"x :: {c}", 1, 5, api.ErrText}, {"x :: ('a, 'b)", 1, 13, api.ErrText}, {"%%", 1, 0, api.ErrText}, {"'a", 1, 0, api.ErrText},
	} {
		r, at, e := mixfix.Readings(mixfix.Pure(), c.text, c.most)
		if at != c.at || e != c.e || (e == api.OK) != (len(r) > 0) {
			t.Errorf("%d %.20q %d %v", i, c.text, at, e)
		}
	}
}

func TestRead(t *testing.T) {
	known := []infer.Known{{Name: "zero", Type: typ("prop")}, {Name: "n", Type: typ("nat")}}
	for i, c := range []struct{ text, want, termText string }{
		{"plus n", "?", "(plus:fun(nat, fun(nat, nat)) $n:nat)"}, {"zero", "?", "$zero:prop"}, {"x", "nat", "$x:nat"}, {"%plus. plus", "?", `(\plus:'a . #0)`}, {"a.b + n", "?", "((plus:fun(nat, fun(nat, nat)) a.b:nat) $n:nat)"}, {"id ?plus.1", "nat", "(id:fun(nat, nat) ?plus.1:nat)"}, {"x # y :: nat list", "?", "((cons:fun(nat, fun(list(nat), list(nat))) $x:nat) $y:list(nat))"},
	} {
		want := api.Type{}
		if c.want != "?" {
			want = typ(c.want)
		}
		x, e := mixfix.Read(numbers(), notations(), known, c.text, want)
		if s, _ := term.Text(x); s != c.termText || e != api.OK {
			t.Error(i, s, e)
		}
	}
	// types decide between readings
	two := append(notations(), infix("imp", mixfix.Infixl, "+", 65))
	x, e := mixfix.Read(numbers(), two, known, "x + n", api.Type{})
	y, f := mixfix.Read(numbers(), two, known, "x + y", types.Prop())
	if s, _ := mixfix.Print(numbers(), notations(), known, x); s != "x + n" || e != api.OK || f != api.OK || !term.Equal(y, term.Imp(prop("x"), prop("y"))) {
		t.Error(s, e, f)
	}
	wrong := numbers()
	wrong.Classes[0].Name = "1"
	var many []mixfix.Notation
	for i := range 31 {
		many = append(many, infix("plus", mixfix.Infixl, "+", i))
	}
	for i := range 31 {
		many = append(many, infix(fmt.Sprint("c", i), mixfix.Infixl, "-", i))
	}
	for i, c := range []struct {
		thy   api.Theory
		l     []mixfix.Notation
		known []infer.Known
		text  string
		want  api.Type
		e     api.Errno
	}{
		{wrong, make([]mixfix.Notation, 201), nil, "", api.Type{}, sort.ErrName}, {numbers(), nil, nil, "(", api.Type{}, api.ErrText}, {numbers(), two, nil, "x + y", api.Type{}, infer.ErrAmbiguous}, {numbers(), many, nil, "x + y", api.Type{}, api.OK}, {numbers(), many, nil, "x - y", api.Type{}, api.ErrLarge}, {numbers(), many[:61], nil, "x - y", api.Type{}, infer.ErrUnknown},
		{numbers(), two, nil, "zero + A ==> B", api.Type{}, api.ErrType}, {numbers(), nil, make([]infer.Known, 61), "x", api.Type{}, api.ErrCount}, {numbers(), nil, nil, "zero", types.Prop(), api.ErrType}, {numbers(), nil, nil, "x", api.Type{Op: 9}, api.ErrForm}, {numbers(), nil, nil, "size (x :: 'a)", api.Type{}, api.ErrSort}, {numbers(), nil, nil, "x :: set", api.Type{}, api.ErrMissing}, {numbers(), nil, nil, "x :: list", api.Type{}, api.ErrCount}, {numbers(), nil, nil, "x :: 'a :: k", api.Type{}, api.ErrMissing},
	} {
		if r, e := mixfix.Read(c.thy, c.l, c.known, c.text, c.want); e != c.e || e != api.OK && !term.Equal(r, api.Term{}) {
			t.Error(i, e, c.e)
		}
	}
}

func TestTypes(t *testing.T) {
	for i, c := range []struct{ text, typ, back string }{
		{"'a", "'a", ""}, {"?'a", "?a.0", ""}, {"?'a.7", "?a.7", ""}, {"nat", "nat", ""}, {"a.b", "a.b", ""}, {"'a :: c", "'a{c}", ""}, {"'a :: {c}", "'a{c}", "'a :: c"}, {"'a :: {c, d}", "'a{c,d}", ""}, {"'a :: {}", "'a", "'a"}, {"'a::{d,c,d}", "'a{c,d}", "'a :: {c, d}"}, {"?'a.1 :: c list", "list(?a.1{c})", ""}, {"'a => 'b => 'c", "fun('a, fun('b, 'c))", ""}, {"('a => 'b) => 'c", "fun(fun('a, 'b), 'c)", ""},
		{"(('a))", "'a", "'a"}, {"'a list list", "list(list('a))", ""}, {"('a => 'b) list", "list(fun('a, 'b))", ""}, {"('a, 'b) pair", "pair('a, 'b)", ""}, {"('a => 'b, ('c, nat list) pair) pair list", "list(pair(fun('a, 'b), pair('c, list(nat))))", ""}, {"('a) list", "list('a)", "'a list"}, {"('a, 'b) fun", "fun('a, 'b)", "'a => 'b"}, {"'a fun", "fun('a)", ""}, {"fun", "fun", ""}, {"('a, 'b, 'c) fun", "fun('a, 'b, 'c)", ""}, {"'a::c => 'b::{c, d} list", "fun('a{c}, list('b{c,d}))", "'a :: c => 'b :: {c, d} list"}, {"'a list => nat", "fun(list('a), nat)", ""}, {"('a => nat) => ('b => nat) list", "fun(fun('a, nat), list(fun('b, nat)))", ""},
	} {
		r, e := mixfix.Type(c.text)
		if s, _ := types.Text(r); s != c.typ || e != api.OK {
			t.Error(i, s, e)
		}
		if c.back == "" {
			c.back = c.text
		}
		if s, e := mixfix.TypeText(typ(c.typ)); s != c.back || e != api.OK {
			t.Error(i, s, e)
		}
	}
	classes := "{"
	for i := range 21 {
		classes += fmt.Sprintf("c%d,", 10+i)
	}
	for i, c := range []struct {
		text string
		e    api.Errno
	}{
		{"", api.ErrText}, {"'a 'b", api.ErrText}, {"('a, 'b)", api.ErrText}, {"?", token.ErrByte}, {`"`, token.ErrString}, {"x ==> y", api.ErrText}, {strings.Repeat("x ", 201), api.ErrCount}, {strings.Repeat("a", 41), api.ErrText}, {"?'a.01", api.ErrText}, {"'a :: " + strings.TrimSuffix(classes, ",") + "}", api.ErrCount}, {"'a ::", api.ErrText}, {"nat ::c", api.ErrText}, {"'a :: c :: d", api.ErrText}, {strings.Repeat("x ", 200), api.OK}, {strings.Repeat(" ", api.MaxText+1), api.ErrLarge}, {"'a :: {c d}", api.ErrText}, {"'a.b", api.ErrText},
	} {
		if r, e := mixfix.Type(c.text); e != c.e || e != api.OK && !types.Equal(r, api.Type{}) {
			t.Error(i, e)
		}
	}
}

func TestTypeTextErrors(t *testing.T) {
	deep := typ("nat")
	for range 499 {
		deep = types.Fun(deep, typ("nat"))
	}
	for i, c := range []struct {
		t api.Type
		e api.Errno
	}{
		{api.Type{}, api.ErrForm}, {api.Type{Op: api.TVar, Name: "a", Index: -1}, api.ErrRange}, {types.Fun(deep, deep), api.ErrDepth}, {deep, mixfix.ErrNoText}, {api.Type{Op: api.TFree, Name: "a.b"}, mixfix.ErrNoText}, {api.Type{Op: api.TVar, Name: "a.b"}, mixfix.ErrNoText}, {api.Type{Op: api.TCon, Name: "a."}, mixfix.ErrNoText}, {api.Type{Op: api.TCon, Name: "a.1"}, mixfix.ErrNoText}, {api.Type{Op: api.TFree, Name: "a", Sort: []string{"c.2"}}, mixfix.ErrNoText}, {api.Type{Op: api.TFree, Name: "a", Sort: []string{"c.d"}}, api.OK}, {api.Type{Op: api.TFree, Name: "a'"}, api.OK},
	} {
		if s, e := mixfix.TypeText(c.t); e != c.e || (e == api.OK) != (s != "") {
			t.Error(i, s, e)
		}
	}
	long := typ("nat")
	for range 199 {
		long = api.Type{Op: api.TCon, Name: "list", Args: []api.Type{long}}
	}
	if s, e := mixfix.TypeText(long); e != api.OK || len(strings.Fields(s)) != 200 {
		t.Error(e)
	}
	if s, e := mixfix.TypeText(api.Type{Op: api.TCon, Name: "list", Args: []api.Type{long}}); e != mixfix.ErrNoText || s != "" {
		t.Error(e)
	}
}
