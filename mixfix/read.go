package mixfix

import (
	"slices"
	"strings"

	"triforium/api"
	"triforium/grammar"
	"triforium/infer"
	"triforium/term"
	"triforium/token"
	"triforium/types"
)

// maxIndex is the greatest index of a variable.
const maxIndex = 1000000

// reader has the tokens of a text, and the grammar of its notations.
type reader struct {
	notations []Notation
	prods     []grammar.Prod
	ahead     int // the number of productions ahead of those of notations
	text      string
	tokens    []token.Token
}

// open returns the reader of a text; with an error, a byte offset.
func open(l []Notation, text string) (*reader, int, api.Errno) {
	tokens, at, e := token.Scan(Keywords(l), text)
	if e != api.OK {
		return nil, at, e
	}
	if len(tokens) > grammar.MaxTokens {
		return nil, 0, api.ErrCount
	}
	if i := slices.IndexFunc(tokens, isLarge); i >= 0 {
		return nil, tokens[i].At, api.ErrText
	}
	prods := productions(l)
	return &reader{notations: l, prods: prods, ahead: len(prods) - len(l), text: text, tokens: tokens}, 0, api.OK
}

// parts returns the name and the digits that a token has, and whether it has any.
func parts(t token.Token) (name, digits string, numbered bool) {
	name = strings.TrimLeft(t.Text, "?'")
	if t.Kind == token.Schema || t.Kind == token.SchemaT {
		return strings.Cut(name, ".")
	}
	return name, "", false
}

// isLarge reports whether a token is too large.
func isLarge(t token.Token) bool {
	switch t.Kind {
	case token.Ident, token.Long, token.Schema, token.TypeVar, token.SchemaT:
		name, digits, numbered := parts(t)
		if len(name) > api.MaxName {
			return true
		}
		n, ok := types.ReadIndex(digits)
		return numbered && (!ok || n > maxIndex)
	}
	return false
}

// kindOf returns the kind of a token in the grammar.
func kindOf(t token.Token) string {
	switch t.Kind {
	case token.Ident, token.Long:
		return "id"
	case token.Schema:
		return "var"
	case token.TypeVar:
		return "tfree"
	case token.SchemaT:
		return "tvar"
	case token.Number:
		return "num"
	case token.String, token.Quoted:
		return "str"
	}
	return ""
}

// trees returns the first trees of a symbol over the text; with an error, a byte offset.
func (r *reader) trees(symbol string, most int) ([]grammar.Tree, int, api.Errno) {
	var l []grammar.Token
	for _, t := range r.tokens {
		l = append(l, grammar.Token{Kind: kindOf(t), Text: t.Text})
	}
	trees, e := grammar.Parse(r.prods, symbol, 0, l, most)
	if e == api.OK {
		return trees, 0, api.OK
	}
	reach, _ := grammar.Reach(r.prods, symbol, 0, l)
	if reach < 0 || reach >= len(r.tokens) {
		return nil, len(r.text), api.ErrText
	}
	return nil, r.tokens[reach].At, api.ErrText
}

// token returns the token of a leaf.
func (r *reader) token(t *grammar.Tree) token.Token { return r.tokens[t.Token] }

// name returns the left side and the name of the production of a tree.
func (r *reader) name(t *grammar.Tree) string {
	p := &r.prods[t.Prod]
	return p.Left + " " + p.Name
}

// bound is a variable that an abstraction or a binder has.
type bound struct {
	name string
	typ  api.Type // zero, if none is written
}

// term returns the raw term of a tree.
func (r *reader) term(t *grammar.Tree) api.Term {
	var around []string // the names of the variables around, the innermost is the last
	var walk func(t *grammar.Tree) api.Term
	over := func(variables []bound, body *grammar.Tree, wrap func(api.Term) api.Term) api.Term {
		for _, v := range variables {
			around = append(around, v.name)
		}
		x := walk(body)
		around = around[:len(around)-len(variables)]
		for _, v := range slices.Backward(variables) {
			x = wrap(api.Term{Op: api.Abs, Name: v.name, Type: v.typ, Kids: []api.Term{x}})
		}
		return x
	}
	walk = func(t *grammar.Tree) api.Term {
		if t.Prod >= r.ahead {
			n := r.notations[t.Prod-r.ahead]
			c := api.Term{Op: api.Const, Name: n.Const}
			if n.Kind == Binder {
				return over(r.bounds(&t.Kids[0]), &t.Kids[1], func(x api.Term) api.Term { return app(c, x) })
			}
			for i := range t.Kids {
				c = app(c, walk(&t.Kids[i]))
			}
			return c
		}
		switch r.name(t) {
		case "term name":
			return named(r.token(&t.Kids[0]).Text, around)
		case "term var":
			name, n := indexed(r.token(&t.Kids[0]))
			return api.Term{Op: api.Var, Name: name, Num: n}
		case "term app":
			f := walk(&t.Kids[0])
			return app(f, walk(&t.Kids[1]))
		case "term abs":
			return over(r.bounds(&t.Kids[0]), &t.Kids[1], func(x api.Term) api.Term { return x })
		case "term typed":
			x := walk(&t.Kids[0])
			return api.Term{Op: infer.Constraint, Type: r.typ(&t.Kids[1]), Kids: []api.Term{x}}
		}
		return walk(&t.Kids[0]) // brackets
	}
	return walk(t)
}

// app returns an application.
func app(f, a api.Term) api.Term { return api.Term{Op: api.App, Kids: []api.Term{f, a}} }

// named returns the innermost variable around of a name, or else a Free.
func named(name string, around []string) api.Term {
	for i, x := range slices.Backward(around) {
		if x == name {
			return api.Term{Op: api.Bound, Num: len(around) - 1 - i}
		}
	}
	return api.Term{Op: api.Free, Name: name}
}

// indexed returns the name and the index of a schematic variable.
func indexed(t token.Token) (string, int) {
	name, digits, _ := parts(t)
	n, _ := types.ReadIndex(digits)
	return name, n
}

// bounds returns the variables of a tree of idts.
func (r *reader) bounds(t *grammar.Tree) []bound {
	var l []bound
	for {
		v := &t.Kids[0]
		b := bound{name: r.token(&v.Kids[0]).Text}
		if r.name(v) == "idt typed" {
			b.typ = r.typ(&v.Kids[1])
		}
		l = append(l, b)
		if r.name(t) == "idts one" {
			return l
		}
		t = &t.Kids[1]
	}
}

// typ returns the type of a tree.
func (r *reader) typ(t *grammar.Tree) api.Type {
	switch r.name(t) {
	case "type tfree", "type tvar":
		return r.variable(&t.Kids[0])
	case "type sorted":
		v := r.variable(&t.Kids[0])
		v.Sort = r.sort(&t.Kids[1])
		return v
	case "type name":
		return api.Type{Op: api.TCon, Name: r.token(&t.Kids[0]).Text}
	case "type app":
		return api.Type{Op: api.TCon, Name: r.token(&t.Kids[1]).Text, Args: []api.Type{r.typ(&t.Kids[0])}}
	case "type apps":
		args := append([]api.Type{r.typ(&t.Kids[0])}, r.args(&t.Kids[1])...)
		return api.Type{Op: api.TCon, Name: r.token(&t.Kids[2]).Text, Args: args}
	case "type fun":
		return types.Fun(r.typ(&t.Kids[0]), r.typ(&t.Kids[1]))
	}
	return r.typ(&t.Kids[0]) // brackets
}

// variable returns the type variable of a leaf.
func (r *reader) variable(t *grammar.Tree) api.Type {
	x := r.token(t)
	if x.Kind == token.TypeVar {
		name, _, _ := parts(x)
		return api.Type{Op: api.TFree, Name: name}
	}
	name, n := indexed(x)
	return api.Type{Op: api.TVar, Name: name, Index: n}
}

// args returns the types of a tree of types.
func (r *reader) args(t *grammar.Tree) []api.Type {
	l := []api.Type{r.typ(&t.Kids[0])}
	for r.name(t) == "types more" {
		t = &t.Kids[1]
		l = append(l, r.typ(&t.Kids[0]))
	}
	return l
}

// sort returns the sort of a tree.
func (r *reader) sort(t *grammar.Tree) []string {
	switch r.name(t) {
	case "sort none":
		return nil
	case "sort one":
		return []string{r.token(&t.Kids[0]).Text}
	}
	t = &t.Kids[0]
	l := []string{r.token(&t.Kids[0]).Text}
	for r.name(t) == "ids more" {
		t = &t.Kids[1]
		l = append(l, r.token(&t.Kids[0]).Text)
	}
	slices.Sort(l)
	return slices.Compact(l)
}

// appendNew appends a term, unless it is there.
func appendNew(l []api.Term, t api.Term) []api.Term {
	if slices.ContainsFunc(l, func(x api.Term) bool { return term.Equal(x, t) }) {
		return l
	}
	return append(l, t)
}

// constants returns the names of the constants of a theory that no known variable has.
func constants(thy api.Theory, known []infer.Known) map[string]bool {
	names := map[string]bool{}
	for i := range thy.Consts {
		names[thy.Consts[i].Name] = true
	}
	for i := range known {
		delete(names, known[i].Name)
	}
	return names
}

// declare makes constants of the Frees with some names.
func declare(t *api.Term, names map[string]bool) {
	for n := range term.Nodes(t) {
		if n.Op == api.Free && names[n.Name] {
			n.Op = api.Const
		}
	}
}
