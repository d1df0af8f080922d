package mixfix_test

import (
	"slices"
	"strings"
	"testing"

	"triforium/api"
	"triforium/infer"
	"triforium/mixfix"
	"triforium/sort"
	"triforium/term"
	"triforium/theory"
	"triforium/types"
)

// TestPrint prints what is read of a text: the second text, or the same one.
func TestPrint(t *testing.T) {
	known := []infer.Known{{Name: "n", Type: typ("nat")}, {Name: "r", Type: typ("prop")}}
	for i, c := range []struct{ text, want string }{
		{"x", ""}, {"n", ""}, {"?x", ""}, {"?x.0", "?x"}, {"?x.3", ""}, {"f x y", ""}, {"f (x y)", ""}, {"(f x) y", "f x y"}, {"a.b", ""}, {"plus", ""}, {"plus n", ""}, {"n + n + n", ""}, {"n + (n + n)", ""}, {"(n + n) + n", "n + n + n"}, {"n ^ n ^ n", ""}, {"(n ^ n) ^ n", ""}, {"n + n * n", ""}, {"(n + n) * n", ""}, {"- n !", ""}, {"(- n) !", ""}, {"- (n + n)", ""}, {"(n + n) !", ""}, {"- - n", ""},
		{"nothing", ""}, {"nil", "nothing"}, {"[n]", "[ n ]"}, {"n # nothing", ""}, {"(n,n)", "(n, n)"}, {"((n, n), n)", ""}, {"if A then n else n + n", ""}, {"(if A then n else n) + n", ""}, {"if A then n else if B then n else n", ""}, {"if A then (if B then n else n) else n", "if A then if B then n else n else n"}, {"f (- n)", ""}, {"f (n !)", ""}, {"f nothing", ""}, {"f [n]", "f [ n ]"},
		// binders and abstractions
		{"SUM x. x + n", ""}, {"SUM x y. x", "SUM x. SUM y. x"}, {"sum f", ""}, {"sum plus n", "?"}, {"sum (plus n)", ""}, {"(SUM x. x) + n", ""}, {"n + (SUM x. x)", ""}, {"%x. x", "% x. x"}, {"%x y. x", "% x. % y. x"}, {"(%x. x) n", "(% x. x) n"}, {"f (%x. x)", "f (% x. x)"}, {"%x. x == x", "% x_1. x_1 == x"}, {"%x. (x == x)", "% x. (x == x)"}, {"!!x. x == x", "!! x. x == x"}, {"(!!x. A) ==> A", "(!! x. A) ==> A"}, {"all P", ""}, {"!!P. all P", "!! P. all P"}, {"A ==> !!x. B", "?"}, {"A ==> (!!x. B)", "A ==> (!! x. B)"},
		// types that are needed, and no others
		{"x :: nat", ""}, {"x :: 'a", "x"}, {"x :: 'b", "x :: 'b"}, {"x :: 'b => 'a list", ""}, {"f (x :: nat)", ""}, {"%x :: nat. x", "?"}, {"%(x :: nat). x", "% (x :: nat). x"}, {"SUM (x :: nat). x", "SUM x. x"}, {"!!(x :: nat). A", "!! (x :: nat). A"}, {"x == y", ""}, {"x == (y :: nat)", "x == y :: nat"}, {"(x :: nat) == y", "x == y :: nat"}, {"nothing == x", "nothing == x"}, {"(nothing :: nat list) == x", "nothing == x :: nat list"}, {"nothing :: nat list", "nil :: nat list"}, {"(x # nothing) :: nat list", "x # (nil :: nat list)"}, {"size (x :: nat)", ""}, {"size x", ""}, {"size (x :: 'b :: c)", ""}, {"two (x :: nat) (x :: nat)", ""}, {"two x (x :: nat)", "two (x :: nat) (x :: nat)"}, {"two (nothing :: nat list) A ==> A", "two (nil :: nat list) (A :: prop) ==> A"},
		// names of variables
		{"%x. %x. x", "% x. % x_1. x_1"}, {"%x. x n y", "% x. x n y"}, {"%n. y n", "% n. y n"}, {"(%x. x) x", "(% x_1. x_1) x"}, {"%plus. plus", "% plus. plus"}, {"%plus. (plus, n + n)", "% plus_1. (plus_1, n + n)"}, {"%a.b. a.b", "% x. x"}, {"%x. %y. %x. x y", "% x. % y. % x_1. x_1 y"}, {"(%x. x) == (%x. x)", "% x. x == % x. x"},
	} {
		x, e := mixfix.Read(numbers(), notations(), known, c.text, api.Type{})
		if c.want == "?" {
			if e == api.OK {
				t.Error(i, c.text)
			}
			continue
		}
		if e != api.OK {
			t.Error(i, c.text, e)
			continue
		}
		if c.want == "" {
			c.want = c.text
		}
		if s, e := mixfix.Print(numbers(), notations(), known, x); s != c.want || e != api.OK {
			t.Errorf("%d %s: %s %v", i, c.text, s, e)
		}
	}
}

// TestPrintNames gives abstractions names that no identifier is, and words as names.
func TestPrintNames(t *testing.T) {
	l := append(notations(), infix("id", mixfix.Binder, "let", 5))
	for i, c := range []struct{ name, want string }{
		{"", "% x. x"}, {"a.b", "% x. x"}, {"a.", "% x. x"}, {"y", "% y. y"}, {"y'", "% y'. y'"}, {"SUM", "% SUM_1. SUM_1"}, {"let", "% let_1. let_1"}, {strings.Repeat("y", 40), "% " + strings.Repeat("y", 40) + ". " + strings.Repeat("y", 40)},
	} {
		x := api.Term{Op: api.Abs, Name: c.name, Type: typ("'a"), Kids: []api.Term{{Op: api.Bound}}}
		if s, e := mixfix.Print(numbers(), l, nil, x); s != c.want || e != api.OK {
			t.Error(i, s, e)
		}
	}
}

// TestPrintFirst takes the first notation that fits, and none for another number of arguments, or a type.
func TestPrintFirst(t *testing.T) {
	l := []mixfix.Notation{mix("id", "the _", 5, 5), infix("all", mixfix.Binder, "ALL", 3), mix("all", "every _", 4, 5), mix("plus", "plus", 1000), mix("plus", "add _ _", 7, 8, 9), infix("plus", mixfix.Infixl, "+", 65), mix("two", "< > _", 9, 1, 2), mix("nil", "empty", 1000)}
	for i, c := range []struct{ term, want string }{
		{`((plus:fun(nat, fun(nat, nat)) zero:nat) zero:nat)`, "add zero zero"}, {`plus:fun(nat, fun(nat, nat))`, "plus"}, {`(plus:fun(nat, fun(nat, nat)) zero:nat)`, "plus zero"}, {`(all:fun(fun(nat, prop), prop) (\x:nat . $A:prop))`, "ALL (x :: nat). A"}, {`(all:fun(fun('b, prop), prop) $P:fun('b, prop))`, "every (P :: 'b => prop)"}, {`(id:fun(nat, nat) zero:nat)`, "the zero"},
		{`((id:fun(fun(nat, nat), fun(nat, nat)) $f:fun(nat, nat)) zero:nat)`, "id (f :: nat => nat) zero"}, {`(id:fun(list(nat), list(nat)) nil:list(nat))`, "the (nil :: nat list)"}, {`nil:list('a)`, "empty"}, {`(nil:fun(nat, nat) zero:nat)`, ""}, {`($f:fun(list('b), 'a) nil:list('b))`, "f (nil :: 'b list)"}, {`((two:fun(nat, fun(nat, prop)) zero:nat) zero:nat)`, "< zero > zero"},
	} {
		x, _ := term.Read(c.term)
		s, e := mixfix.Print(numbers(), l, nil, x)
		if c.want == "" && (s != "" || e == api.OK) || c.want != "" && (s != c.want || e != api.OK) {
			t.Error(i, s, e)
		}
	}
}

// TestPrintBrackets has notations whose texts are ambiguous without more brackets.
func TestPrintBrackets(t *testing.T) {
	l := append(mixfix.Pure(), mix("two", "if then _", 10, 0, 10), mix("if", "if then else _", 10, 0, 10, 10))
	for i, c := range []struct{ text, want string }{
		{"if A then (if B then (x :: nat) else y)", "if A then if B then x else (y :: nat)"}, {"if A then (if B then A else B)", "if (A :: prop) then (if B then A else B)"}, {"if A then (if A then B) else (x == y)", "if A then (if A then B) else (x == y)"}, {"(if A then (if A then B)) == B", "if A :: 'a then if A :: 'a then (B :: prop) == B"},
		{"if P (x :: nat list) then (if B then f A B else !!y. x == y)", ""}, {"if P (x :: nat list) then (if B then f A B else (!!y. z == y))", "if (P (x :: (nat list))) then (if B then ((f A) B) else (!! y. (z == y)))"}, {"if P (%(x :: nat list). (x :: nat list)) then (if B then A else A)", "if (P (% (x :: (nat list)). x)) then (if B then A else A)"},
	} {
		x, e := mixfix.Read(numbers(), l, nil, c.text, api.Type{})
		s, f := mixfix.Print(numbers(), l, nil, x)
		if c.want == "" && e == api.OK || c.want != "" && (s != c.want || e != api.OK || f != api.OK) {
			t.Error(i, s, e, f)
		}
	}
	// two readings in any brackets
	if s, e := mixfix.Print(numbers(), append(mixfix.Pure(), infix("plus", mixfix.Infixl, "+", 65), infix("times", mixfix.Infixl, "+", 65)), nil, plus()); s != "" || e != mixfix.ErrNoText {
		t.Error(s, e)
	}
	// a word that begins with * is no comment
	if s, e := mixfix.Print(numbers(), []mixfix.Notation{mix("neg", "* _", 5, 5), mix("one", "{ }", 9, 0), mix("nil", "**", 1000)}, nil, read(`($f:fun(nat, 'a) (neg:fun(nat, nat) $x:nat))`)); s != "f ( * x)" || e != api.OK {
		t.Error(s, e)
	}
	if s, e := mixfix.Print(numbers(), []mixfix.Notation{mix("one", "{ }", 9, 0), mix("pair", "( , )", 1000, 0, 0), mix("nil", "**", 1000)}, nil, read(`((pair:fun(list('a), fun(list(list('b)), pair(list('a), list(list('b))))) nil:list('a)) (one:fun(list('b), list(list('b))) nil:list('b)))`)); s != "( **, {**})" || e != api.OK {
		t.Error(s, e)
	}
}

func read(s string) api.Term {
	t, e := term.Read(s)
	if e != api.OK {
		panic(s)
	}
	return t
}

func plus() api.Term {
	return read(`((plus:fun(nat, fun(nat, nat)) zero:nat) zero:nat)`)
}

func TestPrintErrors(t *testing.T) {
	wrong, ill := numbers(), numbers()
	wrong.Classes[0].Name = "1"
	ill.Name = ""
	leaves := prop("A")
	for range 100 {
		leaves = term.Imp(leaves, prop("B"))
	}
	fewer := prop("A")
	for range 99 {
		fewer = term.Imp(prop("B"), fewer)
	}
	lambdas := api.Term{Op: api.Bound}
	for range 66 {
		lambdas = api.Term{Op: api.Abs, Name: "x", Type: typ("'a"), Kids: []api.Term{lambdas}}
	}
	deep := typ("nat")
	for range 300 {
		deep = types.Fun(deep, typ("nat"))
	}
	for i, c := range []struct {
		thy   api.Theory
		known []infer.Known
		t     api.Term
		e     api.Errno
	}{
		{wrong, make([]infer.Known, 61), api.Term{}, sort.ErrName}, {numbers(), nil, api.Term{}, api.ErrForm}, {ill, nil, prop("A"), api.ErrForm}, {numbers(), make([]infer.Known, 61), prop("A"), api.ErrCount}, {numbers(), make([]infer.Known, 61), leaves, api.ErrCount}, {ill, nil, leaves, api.ErrForm}, {numbers(), nil, term.Imp(leaves, read(`$x:nat`)), api.ErrType},
		{numbers(), nil, leaves, mixfix.ErrNoText}, {numbers(), nil, fewer, api.OK}, {numbers(), nil, lambdas, mixfix.ErrNoText}, {numbers(), nil, read(`$x:prop`), api.OK}, {numbers(), []infer.Known{{Name: "x", Type: typ("nat")}}, read(`$x:prop`), mixfix.ErrNoText}, {numbers(), []infer.Known{{Name: "zero", Type: typ("nat")}}, read(`zero:nat`), mixfix.ErrNoText}, {numbers(), []infer.Known{{Name: "zero", Type: typ("nat")}}, read(`$zero:nat`), api.OK}, {numbers(), nil, read(`$zero:nat`), mixfix.ErrNoText},
		{numbers(), nil, read(`$a.:nat`), mixfix.ErrNoText}, {numbers(), nil, read(`$a.b:nat`), mixfix.ErrNoText}, {numbers(), nil, read(`$a.c:nat`), api.OK}, {numbers(), nil, read(`?a.c.0:nat`), mixfix.ErrNoText}, {numbers(), nil, read(`$x:'a.b`), mixfix.ErrNoText}, {numbers(), nil, read(`$if:nat`), mixfix.ErrNoText}, {numbers(), nil, api.Term{Op: api.Free, Name: "x", Type: deep}, mixfix.ErrNoText},
	} {
		if s, e := mixfix.Print(c.thy, notations(), c.known, c.t); e != c.e || (e == api.OK) != (s != "") {
			t.Error(i, s, e, c.e)
		}
	}
	// two names of 40 bytes: the new one is too large
	x := api.Term{Op: api.Abs, Name: strings.Repeat("x", 40), Type: typ("'a"), Kids: []api.Term{{Op: api.Abs, Name: strings.Repeat("x", 40), Type: typ("'b"), Kids: []api.Term{{Op: api.Bound}}}}}
	if s, e := mixfix.Print(theory.Pure(), nil, nil, x); s != "" || e != mixfix.ErrNoText {
		t.Error(s, e)
	}
}

// TestMemory changes results, which share nothing with what was given.
func TestMemory(t *testing.T) {
	l := notations()
	g, _ := mixfix.Grammar(l)
	for i := range g {
		for j := range g[i].Items {
			g[i].Items[j].Text = "spoilt"
		}
	}
	k := mixfix.Keywords(l)
	for i := range k {
		k[i] = "spoilt"
	}
	if !slices.EqualFunc(l, notations(), func(a, b mixfix.Notation) bool {
		return slices.Equal(a.Words, b.Words) && slices.Equal(a.Prios, b.Prios)
	}) {
		t.Error("notations")
	}
	if again, _ := mixfix.Grammar(l); again[0].Items[0].Text != "id" {
		t.Error("grammar")
	}
}
