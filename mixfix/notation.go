package mixfix

import (
	"slices"

	"triforium/api"
	"triforium/grammar"
	"triforium/sort"
	"triforium/token"
)

// isRight reports whether a notation is right.
func (n Notation) isRight() bool {
	if !sort.IsName(n.Const) || n.Kind < Mixfix || n.Kind > Binder || n.Prio < 0 || n.Prio > n.greatest() {
		return false
	}
	if !slices.ContainsFunc(n.Words, func(w string) bool { return w != "" }) || slices.ContainsFunc(n.Words, isNoWord) {
		return false
	}
	if n.Kind != Mixfix {
		return len(n.Words) == 1 && len(n.Prios) == 0
	}
	return len(n.Prios) <= 10 && len(n.Words) == len(n.Prios)+1 && !slices.ContainsFunc(n.Prios, func(p int) bool { return p < 0 || p > grammar.MaxPrio })
}

// isInfix reports whether the word of a notation stands between two arguments.
func (n Notation) isInfix() bool { return n.Kind == Infix || n.Kind == Infixl || n.Kind == Infixr }

// greatest returns the greatest priority of a notation of this kind: a side of an infix may have one more.
func (n Notation) greatest() int {
	if n.isInfix() {
		return grammar.MaxPrio - 1
	}
	return grammar.MaxPrio
}

// isNoWord reports whether a word is neither empty nor a keyword.
func isNoWord(w string) bool { return w != "" && token.Check([]string{w}) != api.OK }

// equal reports whether notations are equal in all fields.
func (n Notation) equal(m Notation) bool {
	return n.Const == m.Const && n.Kind == m.Kind && n.Prio == m.Prio && slices.Equal(n.Words, m.Words) && slices.Equal(n.Prios, m.Prios)
}

// arguments returns how many arguments of its constant a notation has.
func (n Notation) arguments() int {
	switch {
	case n.isInfix():
		return 2
	case n.Kind == Binder:
		return 1
	}
	return len(n.Prios)
}

// layout returns the words around the arguments of a notation that is no Binder, one more than these, and the priorities of their places.
func (n Notation) layout() (words []string, places []int) {
	left, right := n.Prio+1, n.Prio+1
	switch n.Kind {
	case Mixfix:
		return n.Words, n.Prios
	case Infixl:
		left = n.Prio
	case Infixr:
		right = n.Prio
	}
	return []string{"", n.Words[0], ""}, []int{left, right}
}

// word, kind and symbol return items of productions.
func word(s string) grammar.Item { return grammar.Item{Kind: grammar.Word, Text: s} }
func kind(s string) grammar.Item { return grammar.Item{Kind: grammar.Category, Text: s} }
func symbol(s string, prio int) grammar.Item {
	return grammar.Item{Kind: grammar.Symbol, Text: s, Prio: prio}
}

// table is a list of productions.
type table []grammar.Prod

// add appends a production.
func (t *table) add(left string, prio int, name string, items ...grammar.Item) {
	*t = append(*t, grammar.Prod{Left: left, Prio: prio, Name: name, Items: items})
}

// base returns the productions of terms and types.
func base() table {
	var t table
	id, typ := kind("id"), symbol("type", 0)
	t.add("term", 1000, "name", id)
	t.add("term", 1000, "var", kind("var"))
	t.add("term", 1000, "brackets", word("("), symbol("term", 0), word(")"))
	t.add("term", 999, "app", symbol("term", 999), symbol("term", 1000))
	t.add("term", 3, "abs", word("%"), symbol("idts", 0), word("."), symbol("term", 3))
	t.add("term", 3, "typed", symbol("term", 4), word("::"), typ)
	t.add("idts", 0, "one", symbol("idt", 0))
	t.add("idts", 0, "more", symbol("idt", 0), symbol("idts", 0))
	t.add("idt", 0, "name", id)
	t.add("idt", 0, "typed", word("("), id, word("::"), typ, word(")"))
	t.add("type", 1000, "tfree", kind("tfree"))
	t.add("type", 1000, "sorted", kind("tfree"), word("::"), symbol("sort", 0))
	t.add("type", 1000, "tvar", kind("tvar"))
	t.add("type", 1000, "sorted", kind("tvar"), word("::"), symbol("sort", 0))
	t.add("type", 1000, "name", id)
	t.add("type", 1000, "brackets", word("("), typ, word(")"))
	t.add("type", 999, "app", symbol("type", 999), id)
	t.add("type", 999, "apps", word("("), typ, word(","), symbol("types", 0), word(")"), id)
	t.add("type", 0, "fun", symbol("type", 1), word("=>"), typ)
	t.add("types", 0, "one", typ)
	t.add("types", 0, "more", typ, word(","), symbol("types", 0))
	t.add("sort", 0, "one", id)
	t.add("sort", 0, "none", word("{"), word("}"))
	t.add("sort", 0, "some", word("{"), symbol("ids", 0), word("}"))
	t.add("ids", 0, "one", id)
	t.add("ids", 0, "more", id, word(","), symbol("ids", 0))
	return t
}

// productions returns the productions of terms and types, and behind them those of notations.
func productions(l []Notation) []grammar.Prod {
	t := base()
	for _, n := range l {
		t.add("term", n.Prio, n.Const, n.items()...)
	}
	return t
}

// items returns the items of the production of a notation.
func (n Notation) items() []grammar.Item {
	if n.Kind == Binder {
		return []grammar.Item{word(n.Words[0]), symbol("idts", 0), word("."), symbol("term", n.Prio)}
	}
	var r []grammar.Item
	words, places := n.layout()
	for i, w := range words {
		if w != "" {
			r = append(r, word(w))
		}
		if i < len(places) {
			r = append(r, symbol("term", places[i]))
		}
	}
	return r
}
