package hol

import (
	"iter"
	"slices"
	"strings"

	"triforium/api"
	"triforium/term"
	"triforium/types"
)

// notations yields the lines of a text: a name, a proposition, and a proof behind |, if there is one.
func notations(text string) iter.Seq2[string, [2]string] {
	return func(yield func(string, [2]string) bool) {
		for line := range strings.Lines(text) {
			name, rest, _ := strings.Cut(strings.TrimSpace(line), " ")
			prop, proof, _ := strings.Cut(rest, " | ")
			if !yield(name, [2]string{prop, proof}) {
				return
			}
		}
	}
}

// stated yields the names and the propositions of lines.
func stated(text string, ofNat bool) iter.Seq2[string, api.Term] {
	return func(yield func(string, api.Term) bool) {
		consts := constants()
		for name, x := range notations(text) {
			if !yield(name, newNotation(x[0], ofNat, consts).prop(tokens(x[0]))) {
				return
			}
		}
	}
}

// has reports whether a line of a text has a name.
func has(text, name string) bool {
	for n := range notations(text) {
		if n == name {
			return true
		}
	}
	return false
}

// tokens returns the tokens of a proposition or a proof.
func tokens(s string) []string {
	apart := strings.NewReplacer("(", " ( ", ")", " ) ", "[", " [ ", "]", " ] ", "{", " { ", "}", " } ", "%", " % ", ".", " . ", "!!", " !! ", ";", " ; ", "\\", " \\ ")
	return strings.Fields(apart.Replace(s))
}

// notation reads propositions and terms.
type notation struct {
	ofNat     bool
	consts    map[string]api.Type
	functions map[string]bool     // the variables that are applied, or arguments of quantifiers
	scope     map[string]api.Term // Frees that stand for names
}

// newNotation returns the notation of a rule, whose proposition tells which variables are functions.
func newNotation(rule string, ofNat bool, consts map[string]api.Type) notation {
	n := notation{ofNat, consts, map[string]bool{}, map[string]api.Term{}}
	n.tell(tokens(rule))
	return n
}

// tell notes the variables that are functions in some tokens: those ahead of an argument, or behind a quantifier.
func (n notation) tell(l []string) {
	for i, x := range l {
		if _, ok := n.consts[x]; ok || x[0] < 'A' || x[0] > 'z' {
			continue
		}
		first := i == 0 || slices.Contains([]string{"(", ".", "==>", "==", "!!"}, l[i-1])
		applied := i+1 < len(l) && (l[i+1] == "(" || l[i+1][0] >= 'A' && l[i+1][0] <= 'z')
		if first && applied || i > 0 && slices.Contains([]string{"All", "Ex", "The"}, l[i-1]) {
			n.functions[x] = true
		}
	}
}

// constants returns the types of the constants of Nat.
func constants() map[string]api.Type {
	m := map[string]api.Type{}
	for _, c := range append(holConsts(), natConsts()...) {
		m[c.Name] = c.Type
	}
	return m
}

// typeOf returns the type of a variable by its name.
func (n notation) typeOf(name string) api.Type {
	a, b := api.Type{Op: api.TVar, Name: "a"}, api.Type{Op: api.TVar, Name: "b"}
	switch name[0] {
	case 'P', 'Q', 'R':
		if !n.functions[name] {
			return BoolType()
		}
		if n.ofNat {
			return to(BoolType(), NatType())
		}
		return to(BoolType(), a)
	case 'f', 'g':
		return to(b, a)
	case 'D':
		return to(BoolType(), NatType(), NatType())
	case 'k', 'm', 'n', 'i':
		return NatType()
	}
	return a
}

// variable returns what a name stands for.
func (n notation) variable(name string) api.Term {
	if t, ok := n.scope[name]; ok {
		return t
	}
	return api.Term{Op: api.Var, Name: name, Type: n.typeOf(name)}
}

// prop reads a proposition, which shares no memory.
func (n notation) prop(l []string) api.Term { return term.Lift(asProp(n.term(l)), 0) }

// asProp puts Trueprop ahead of a term of the type bool.
func asProp(t api.Term) api.Term {
	if isBool(t) {
		return Truth(t)
	}
	return t
}

// term reads a term, or a proposition that is no term of the type bool.
func (n notation) term(l []string) api.Term {
	at := 0
	peek := func() string {
		if at < len(l) {
			return l[at]
		}
		return ""
	}
	next := func() string {
		at++
		return l[at-1]
	}
	var whole func() api.Term
	binder := func(make func(x, body api.Term) api.Term) api.Term {
		name := next()
		x := api.Term{Op: api.Free, Name: name, Type: n.typeOf(name)}
		next() // the dot
		old, had := n.scope[name]
		n.scope[name] = x
		body := whole()
		delete(n.scope, name)
		if had {
			n.scope[name] = old
		}
		return make(x, body)
	}
	atom := func() api.Term {
		if x := next(); x != "(" {
			if t, ok := n.consts[x]; ok {
				return applied(x, t)
			}
			return n.variable(x)
		}
		t := whole()
		next() // the bracket
		return t
	}
	whole = func() api.Term {
		switch peek() {
		case "!!":
			next()
			return binder(func(x, body api.Term) api.Term { return term.All(x, asProp(body)) })
		case "%":
			next()
			return binder(over)
		}
		head := atom()
		var args []api.Term
		for !slices.Contains([]string{"", ")", "==>", "=="}, peek()) {
			args = append(args, atom())
		}
		t := together(head, args)
		switch peek() {
		case "==>":
			next()
			return term.Imp(asProp(t), asProp(whole()))
		case "==":
			next()
			t, _ = term.Eq(t, whole())
		}
		return t
	}
	return whole()
}

// together applies a head to arguments; the arguments of a constant tell its type.
func together(head api.Term, args []api.Term) api.Term {
	if head.Op == api.Const && len(args) > 0 {
		u, _ := term.TypeOf(args[0])
		switch head.Name {
		case "All", "Ex", "The":
			u = u.Args[0]
		case "If":
			u, _ = term.TypeOf(args[1])
		}
		head.Type = types.Apply([]api.TypeBind{{Name: "a", To: u}}, head.Type)
	}
	return term.Apps(head, args)
}
