package laws

import (
	"testing"

	"triforium/api"
	"triforium/mixfix"
	"triforium/outer"
	"triforium/term"
	"triforium/token"
	"triforium/types"
)

// holNotations are notations of the constants of hol.
func holNotations() []mixfix.Notation {
	infix := func(c string, kind int, sign string, prio int) mixfix.Notation {
		return mixfix.Notation{Const: c, Kind: kind, Words: []string{sign}, Prio: prio}
	}
	return append(mixfix.Pure(),
		mixfix.Notation{Const: "Trueprop", Kind: mixfix.Mixfix, Words: []string{"|-", ""}, Prios: []int{4}, Prio: 3},
		mixfix.Notation{Const: "Not", Kind: mixfix.Mixfix, Words: []string{"~", ""}, Prios: []int{40}, Prio: 40},
		infix("And", mixfix.Infixr, "&", 35), infix("Or", mixfix.Infixr, "|", 30), infix("Implies", mixfix.Infixr, "-->", 25), infix("Equal", mixfix.Infix, "=", 50), infix("All", mixfix.Binder, "ALL", 10), infix("Ex", mixfix.Binder, "EX", 10))
}

// printed holds the texts of a term of a theory against the term; it reports whether it has one.
func printed(t *testing.T, thy api.Theory, l []mixfix.Notation, x api.Term) bool {
	s, e := mixfix.Print(thy, l, nil, x)
	if e == mixfix.ErrNoText {
		return false
	}
	back, f := mixfix.Read(thy, l, nil, s, api.Type{})
	if e != api.OK || f != api.OK || !term.Equal(back, x) {
		t.Fatal(textOf(x), s, e, f)
	}
	for n := range term.Nodes(&x) {
		if n.Type.Op == 0 {
			continue
		}
		s, e := mixfix.TypeText(n.Type)
		if u, f := mixfix.Type(s); e != mixfix.ErrNoText && (e != api.OK || f != api.OK || !types.Equal(u, n.Type)) {
			t.Fatal(n.Type, s, e, f)
		}
	}
	written(t, s)
	return true
}

// written holds a lemma that has a text against its command.
func written(t *testing.T, s string) {
	c := outer.Command{Word: "lemma", Parts: []outer.Part{{Kind: outer.Name, Text: "a"}, {Kind: outer.Sign, Text: ":"}, {Kind: outer.Text, Text: s}}}
	w, e := outer.Write(c)
	l, at, f := outer.Commands(w + " by this")
	if e != api.OK || f != api.OK || len(l) != 2 || l[0].Parts[2].Text != s {
		t.Fatal(s, w, e, f, at)
	}
	tokens, _, e := token.Scan(nil, s)
	back, f := token.Join(nil, tokens)
	if e != api.OK || f != api.OK || len(back) > len(s) {
		t.Fatal(s, back, e, f)
	}
}

// P4, P16.2: propositions of theorems are read from their texts.
func TestTextsOfTheorems(t *testing.T) {
	all, none := 0, 0
	scripts(60, 45, func(seed int64, m *maker) {
		for _, x := range m.results {
			if !x.Is() {
				continue
			}
			all++
			if !printed(t, x.Theory(), mixfix.Pure(), x.Prop()) {
				none++
			}
		}
	})
	if all < 500 || none > all/10 {
		t.Error(all, none)
	}
}

// The example of DOC.md, and terms of HOL with brackets, binders and types.
func TestTextsOfHol(t *testing.T) {
	thy, l := hol(), holNotations()
	for i, c := range []struct{ text, want string }{
		{"|- A --> A", "|- A --> A"}, {"|- ~ A & B | C --> (A & B) & C", "|- ~ A & B | C --> (A & B) & C"}, {"|- (A --> B) --> C ==> |- ~ (A = B)", "|- (A --> B) --> C ==> |- ~ A = B"}, {"|- (A = B) = C", "|- (A = B) = C"}, {"|- (ALL x y. x = y)", "|- ALL x. ALL y. x = y"}, {"|- (ALL x. x) --> (EX x. x)", "|- (ALL x. x) --> (EX x. x)"}, {"!!(x :: bool). |- x", "!! x. |- x"},
		{"!!x. |- P x ==> |- P x", "!! x. |- P x ==> |- P x"}, {"!!x. |- P x ==> |- (EX y. P y)", "!! x. |- (P :: 'a => bool) x ==> |- EX y. (P :: 'a => bool) y"}, {"|- All P", "|- All P"}, {"|- (ALL (x :: bool => bool). x = x)", "|- ALL x. (Equal :: (bool => bool) => (bool => bool) => bool) x x"},
	} {
		x, e := mixfix.Read(thy, l, nil, c.text, types.Prop())
		if e != api.OK || !printed(t, thy, l, x) {
			t.Error(i, c.text, e)
			continue
		}
		if s, _ := mixfix.Print(thy, l, nil, x); s != c.want {
			t.Error(i, s)
		}
	}
}
