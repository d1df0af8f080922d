package mixfix

import (
	"slices"
	"strconv"
	"strings"

	"triforium/api"
	"triforium/grammar"
	"triforium/infer"
	"triforium/term"
	"triforium/token"
	"triforium/types"
)

// Priorities of productions.
const (
	atom    = 1000
	applied = 999
	typed   = 3
	arrow   = 0
)

// pinned is infer.Pinned. A term that has no text, since it would have too many tokens, is only looked at for an error.
func pinned(thy api.Theory, known []infer.Known, t *api.Term) (api.Term, api.Errno) {
	if term.SizeError(t) == api.OK && !tooLong(t) {
		return infer.Pinned(thy, known, *t)
	}
	if _, e := term.Check(thy, *t); e != api.OK {
		return api.Term{}, e
	}
	again, e := infer.Term(thy, known, *t, api.Type{})
	switch {
	case e != api.OK:
		return api.Term{}, e
	case !term.Equal(again, *t):
		return api.Term{}, api.ErrType
	}
	return api.Term{}, ErrNoText
}

// tooLong reports whether each text of a term has more tokens than are read.
func tooLong(t *api.Term) bool {
	tokens := 0
	for n := range term.Nodes(t) {
		switch n.Op {
		case api.App:
		case api.Abs:
			tokens += 3
		default:
			tokens++
		}
		if tokens > grammar.MaxTokens {
			return true
		}
	}
	return false
}

// text returns the first text of a raw term that is read as a term; it leaves by a panic, if there is none.
func (w *writer) text(raw *api.Term, isRight func(text string) bool) string {
	for _, all := range [...]bool{false, true} {
		w.all = all
		if text := spaced(w.term(raw).words); isRight(text) {
			return text
		}
	}
	panic(ErrNoText)
}

// names returns the names of the constants and the fixed variables of a term.
func names(t *api.Term) []string {
	var l []string
	for n := range term.Nodes(t) {
		if n.Op == api.Free || n.Op == api.Const {
			l = append(l, n.Name)
		}
	}
	return l
}

// piece is the text of a part, in tokens, and the priority of its production.
type piece struct {
	words []string
	prio  int
}

// writer writes terms and types in tokens.
type writer struct {
	notations []Notation
	all       bool     // there are brackets around all parts that are not single tokens
	taken     []string // the names that no variable of an abstraction has
	around    []string // those of the variables around, the innermost is the last
}

// part returns a piece in a place of a priority.
func (w *writer) part(p piece, place int) []string {
	if p.prio < place || w.all && len(p.words) > 1 {
		return slices.Concat([]string{"("}, p.words, []string{")"})
	}
	return p.words
}

// term returns the text of a raw term.
func (w *writer) term(t *api.Term) piece {
	if t.Op == api.Abs {
		return piece{w.over("%", t, typed), typed}
	}
	head, args := term.Spine(*t)
	if i := slices.IndexFunc(w.notations, func(n Notation) bool { return n.writes(&head, args) }); i >= 0 {
		return w.noted(w.notations[i], args)
	}
	p := w.head(&head)
	for i := range args {
		p = piece{slices.Concat(w.part(p, applied), w.part(w.term(&args[i]), atom)), applied}
	}
	return p
}

// writes reports whether a notation is one for a head with just these arguments.
func (n Notation) writes(head *api.Term, args []api.Term) bool {
	if head.Op != api.Const || head.Name != n.Const || !isOpen(head) || len(args) != n.arguments() {
		return false
	}
	return n.Kind != Binder || args[0].Op == api.Abs
}

// isOpen reports whether a node has no type.
func isOpen(t *api.Term) bool { return types.Equal(t.Type, api.Type{}) }

// noted returns the text of the arguments of a notation.
func (w *writer) noted(n Notation, args []api.Term) piece {
	if n.Kind == Binder {
		return piece{w.over(n.Words[0], &args[0], n.Prio), n.Prio}
	}
	var words []string
	around, places := n.layout()
	for i, s := range around {
		if s != "" {
			words = append(words, s)
		}
		if i < len(args) {
			words = append(words, w.part(w.term(&args[i]), places[i])...)
		}
	}
	return piece{words, n.Prio}
}

// over returns the text of an abstraction behind a word, where the body has a place of a priority.
func (w *writer) over(word string, t *api.Term, place int) []string {
	name := t.Name
	if _, e := token.Write(nil, token.Token{Kind: token.Ident, Text: name}); e != api.OK {
		name = "x"
	}
	name = term.Variant(name, slices.Concat(w.taken, w.around))
	words := []string{word, name}
	if !isOpen(t) {
		words = slices.Concat([]string{word, "(", name, "::"}, w.part(w.typ(&t.Type), 0), []string{")"})
	}
	w.around = append(w.around, name)
	body := w.part(w.term(&t.Kids[0]), place)
	w.around = w.around[:len(w.around)-1]
	return slices.Concat(words, []string{"."}, body)
}

// head returns the text of a constant or a variable, or that of an abstraction which is applied.
func (w *writer) head(t *api.Term) piece {
	name := t.Name
	switch t.Op {
	case api.Abs:
		return w.term(t)
	case api.Bound:
		name = w.around[len(w.around)-1-t.Num]
	case api.Var:
		name = indexText("?", t.Name, t.Num)
	}
	if isOpen(t) {
		return piece{[]string{name}, atom}
	}
	return piece{slices.Concat([]string{name, "::"}, w.part(w.typ(&t.Type), 0)), typed}
}

// indexText returns the text of a schematic variable behind a mark.
func indexText(mark, name string, n int) string {
	if n == 0 {
		return mark + name
	}
	return mark + name + "." + strconv.Itoa(n)
}

// typ returns the text of a type.
func (w *writer) typ(t *api.Type) piece {
	switch {
	case t.Op == api.TFree:
		return piece{append([]string{"'" + t.Name}, sortWords(t.Sort)...), atom}
	case t.Op == api.TVar:
		return piece{append([]string{indexText("?'", t.Name, t.Index)}, sortWords(t.Sort)...), atom}
	case len(t.Args) == 0:
		return piece{[]string{t.Name}, atom}
	case len(t.Args) == 1:
		return piece{slices.Concat(w.part(w.typ(&t.Args[0]), applied), []string{t.Name}), applied}
	case t.Name == "fun" && len(t.Args) == 2:
		return piece{slices.Concat(w.part(w.typ(&t.Args[0]), arrow+1), []string{"=>"}, w.part(w.typ(&t.Args[1]), arrow)), arrow}
	}
	words := []string{"("}
	for i := range t.Args {
		if i > 0 {
			words = append(words, ",")
		}
		words = append(words, w.part(w.typ(&t.Args[i]), 0)...)
	}
	return piece{append(words, ")", t.Name), applied}
}

// sortWords returns what stands behind a type variable with a sort.
func sortWords(s []string) []string {
	switch len(s) {
	case 0:
		return nil
	case 1:
		return []string{"::", s[0]}
	}
	words := []string{"::"}
	mark := "{"
	for _, c := range s {
		words = append(words, mark, c)
		mark = ","
	}
	return append(words, "}")
}

// spaced returns the text of tokens.
func spaced(words []string) string {
	var b strings.Builder
	for i, s := range words {
		if i > 0 && isApart(words[i-1], s) {
			b.WriteByte(' ')
		}
		b.WriteString(s)
	}
	return b.String()
}

// isApart reports whether a space stands between two tokens.
func isApart(a, b string) bool {
	switch {
	case b == ")" || b == "}" || b == "," || b == ".":
		return false
	case a == "(":
		return strings.HasPrefix(b, "*") // no comment
	}
	return a != "{"
}
