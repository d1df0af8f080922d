package mixfix_test

import (
	"math/rand"
	"slices"
	"strconv"
	"strings"
	"testing"

	"triforium/api"
	"triforium/grammar"
	"triforium/infer"
	"triforium/mixfix"
	"triforium/term"
	"triforium/token"
	"triforium/types"
)

// maker makes random terms and notations.
type maker struct{ *rand.Rand }

func (m maker) pick(l ...string) string { return l[m.Intn(len(l))] }

func (m maker) typ(depth int) api.Type {
	if depth > 0 {
		switch m.Intn(6) {
		case 0, 1:
			return types.Fun(m.typ(depth-1), m.typ(depth-1))
		case 2:
			return api.Type{Op: api.TCon, Name: "list", Args: []api.Type{m.typ(depth - 1)}}
		case 3:
			return api.Type{Op: api.TCon, Name: "pair", Args: []api.Type{m.typ(depth - 1), m.typ(depth - 1)}}
		}
	}
	return typ(m.pick("nat", "prop", "'a", "'b{c}", "'e{c,d}", "?a.0", "?a.1{c}", "?b.7"))
}

// raw returns a random raw term that may have no types.
func (m maker) raw(depth, around int) api.Term {
	open := func() api.Type {
		if m.Intn(8) > 0 {
			return api.Type{}
		}
		return m.typ(2)
	}
	if depth == 0 || m.Intn(6) == 0 {
		switch n := m.Intn(10); {
		case n < 4 && around > 0:
			return api.Term{Op: api.Bound, Num: m.Intn(around)}
		case n < 7:
			return api.Term{Op: api.Free, Name: m.pick("x", "y", "f", "n", "x_1"), Type: open()}
		case n < 8:
			return api.Term{Op: api.Var, Name: m.pick("x", "y"), Num: m.Intn(3), Type: open()}
		}
		return api.Term{Op: api.Const, Name: m.pick("zero", "plus", "nil", "neg", "a.b", "all", "imp", "id"), Type: open()}
	}
	app := func(c string, n int) api.Term {
		t := api.Term{Op: api.Const, Name: c, Type: open()}
		for range n {
			t = term.Apps(t, []api.Term{m.raw(depth-1, around)})
		}
		return t
	}
	over := api.Term{Op: api.Abs, Name: m.pick("x", "y", "n", "", "SUM", "a.b", "zero"), Type: open()}
	switch m.Intn(10) {
	case 0, 1:
		return app(m.pick("plus", "times", "power", "cons", "pair", "eq", "imp", "two"), 2)
	case 2:
		return app(m.pick("neg", "fact", "one", "id", "size", "sum", "all"), 1)
	case 3:
		return app("if", 2+m.Intn(3))
	case 4, 5:
		over.Kids = []api.Term{m.raw(depth-1, around+1)}
		return term.Apps(api.Term{Op: api.Const, Name: m.pick("sum", "the", "all")}, []api.Term{over})
	case 6:
		over.Kids = []api.Term{m.raw(depth-1, around+1)}
		return over
	}
	return term.Apps(m.raw(depth-1, around), []api.Term{m.raw(depth-1, around)})
}

// term returns a random term of the theory of numbers, false if there is none.
func (m maker) term(known []infer.Known) (api.Term, bool) {
	t, e := infer.Term(numbers(), known, m.raw(1+m.Intn(4), 0), api.Type{})
	return t, e == api.OK
}

// notations returns random notations of few words.
func (m maker) notations() []mixfix.Notation {
	var l []mixfix.Notation
	w := func() string { return m.pick("+", "-", "if", "then", "[", "]", ",", "") }
	for range m.Intn(8) {
		n := mixfix.Notation{Const: m.pick("plus", "times", "neg", "id", "if", "two", "eq", "nil", "pair", "cons", "sum", "all"), Kind: 1 + m.Intn(5), Words: []string{w()}, Prio: m.Intn(4)}
		for range m.Intn(4) {
			if n.Kind == mixfix.Mixfix {
				n.Words = append(n.Words, w())
				n.Prios = append(n.Prios, m.Intn(4))
			}
		}
		if mixfix.Check(append(l, n)) == api.OK {
			l = append(l, n)
		}
	}
	return append(l, mixfix.Pure()[m.Intn(3):]...)
}

// builder makes the tree of a raw term with as few brackets as it needs, or with all.
type builder struct {
	l      []mixfix.Notation
	g      []grammar.Prod
	tokens []grammar.Token
	taken  []string
	all    bool
}

// leaf returns the node of a token.
func (b *builder) leaf(kind, text string) grammar.Tree {
	b.tokens = append(b.tokens, grammar.Token{Kind: kind, Text: text})
	return grammar.Tree{Prod: -1, Token: len(b.tokens) - 1}
}

// node returns the node of a production, by its left side, name and number among those of these; kids have brackets where they need them.
func (b *builder) node(left, name string, nth int, kids ...grammar.Tree) grammar.Tree {
	for i, p := range b.g[:26] {
		if p.Left == left && p.Name == name {
			if nth--; nth < 0 {
				return b.fill(i, kids)
			}
		}
	}
	panic(left + name)
}

func (b *builder) fill(prod int, kids []grammar.Tree) grammar.Tree {
	r := grammar.Tree{Prod: prod}
	for _, item := range b.g[prod].Items {
		if item.Kind == grammar.Word {
			continue
		}
		k := kids[0]
		kids = kids[1:]
		if item.Kind == grammar.Symbol && (item.Text == "term" || item.Text == "type") {
			l, _ := grammar.Yield(b.g, b.tokens, k)
			if b.g[k.Prod].Prio < item.Prio || b.all && len(l) > 1 {
				k = grammar.Tree{Prod: map[string]int{"term": 2, "type": 15}[item.Text], Kids: []grammar.Tree{k}}
			}
		}
		r.Kids = append(r.Kids, k)
	}
	return r
}

func (b *builder) typ(t api.Type) grammar.Tree {
	switch {
	case t.Op != api.TCon:
		text, kind, nth := "'"+t.Name, "tfree", 0
		if t.Op == api.TVar {
			text, kind, nth = "?'"+t.Name, "tvar", 1
		}
		if t.Index > 0 {
			text += "." + strconv.Itoa(t.Index)
		}
		v := b.leaf(kind, text)
		switch len(t.Sort) {
		case 0:
			return b.node("type", kind, 0, v)
		case 1:
			return b.node("type", "sorted", nth, v, b.node("sort", "one", 0, b.leaf("id", t.Sort[0])))
		}
		ids := b.node("ids", "one", 0, b.leaf("id", t.Sort[len(t.Sort)-1]))
		for _, c := range slices.Backward(t.Sort[:len(t.Sort)-1]) {
			ids = b.node("ids", "more", 0, b.leaf("id", c), ids)
		}
		return b.node("type", "sorted", nth, v, b.node("sort", "some", 0, ids))
	case t.Name == "fun" && len(t.Args) == 2:
		return b.node("type", "fun", 0, b.typ(t.Args[0]), b.typ(t.Args[1]))
	case len(t.Args) == 0:
		return b.node("type", "name", 0, b.leaf("id", t.Name))
	case len(t.Args) == 1:
		return b.node("type", "app", 0, b.typ(t.Args[0]), b.leaf("id", t.Name))
	}
	l := b.node("types", "one", 0, b.typ(t.Args[len(t.Args)-1]))
	for _, a := range slices.Backward(t.Args[1 : len(t.Args)-1]) {
		l = b.node("types", "more", 0, b.typ(a), l)
	}
	return b.node("type", "apps", 0, b.typ(t.Args[0]), l, b.leaf("id", t.Name))
}

// idt returns the tree of the variable of an abstraction, and its name.
func (b *builder) idt(t api.Term) (grammar.Tree, string) {
	name := t.Name
	if name == "" || strings.ContainsAny(name, ".") {
		name = "x"
	}
	name = term.Variant(name, b.taken)
	v := b.leaf("id", name)
	i := b.node("idt", "name", 0, v)
	if t.Type.Op != 0 {
		i = b.node("idt", "typed", 0, v, b.typ(t.Type))
	}
	return b.node("idts", "one", 0, i), name
}

func (b *builder) body(t api.Term, name string) grammar.Tree {
	b.taken = append(b.taken, name)
	r := b.term(term.Put(t.Kids[0], api.Term{Op: api.Free, Name: name}))
	b.taken = b.taken[:len(b.taken)-1]
	return r
}

func (b *builder) term(t api.Term) grammar.Tree {
	head, args := term.Spine(t)
	if head.Op == api.Const && head.Type.Op == 0 {
		for i, n := range b.l {
			arity := map[int]int{mixfix.Mixfix: len(n.Prios), mixfix.Infix: 2, mixfix.Infixl: 2, mixfix.Infixr: 2, mixfix.Binder: 1}[n.Kind]
			if n.Const != head.Name || arity != len(args) || n.Kind == mixfix.Binder && args[0].Op != api.Abs {
				continue
			}
			if n.Kind == mixfix.Binder {
				v, name := b.idt(args[0])
				return b.fill(26+i, []grammar.Tree{v, b.body(args[0], name)})
			}
			var kids []grammar.Tree
			for _, a := range args {
				kids = append(kids, b.term(a))
			}
			return b.fill(26+i, kids)
		}
	}
	var r grammar.Tree
	switch head.Op {
	case api.Abs:
		v, name := b.idt(head)
		r = b.node("term", "abs", 0, v, b.body(head, name))
	case api.Var:
		text := "?" + head.Name
		if head.Num > 0 {
			text += "." + strconv.Itoa(head.Num)
		}
		r = b.node("term", "var", 0, b.leaf("var", text))
	default:
		r = b.node("term", "name", 0, b.leaf("id", head.Name))
	}
	if head.Op != api.Abs && head.Type.Op != 0 {
		r = b.node("term", "typed", 0, r, b.typ(head.Type))
	}
	for _, a := range args {
		r = b.node("term", "app", 0, r, b.term(a))
	}
	return r
}

// naive is Print by the words of the chapter, of a term that is right.
func naive(known []infer.Known, l []mixfix.Notation, t api.Term) string {
	raw, e := infer.Pinned(numbers(), known, t)
	if e != api.OK {
		return ""
	}
	g, _ := mixfix.Grammar(l)
	for _, all := range []bool{false, true} {
		b := builder{l: l, g: g, all: all, taken: mixfix.Keywords(l)}
		for n := range term.Nodes(&t) {
			if n.Op == api.Free || n.Op == api.Const {
				b.taken = append(b.taken, n.Name)
			}
		}
		tree := b.term(raw)
		words, e := grammar.Yield(g, b.tokens, tree)
		if e != api.OK {
			panic(e)
		}
		s := joined(words)
		if x, e := mixfix.Read(numbers(), l, known, s, api.Type{}); e == api.OK && term.Equal(x, t) {
			return s
		}
	}
	return ""
}

// joined returns the text of tokens.
func joined(l []grammar.Token) string {
	s := ""
	for i, t := range l {
		if i > 0 {
			s += " "
		}
		s += t.Text
	}
	for _, p := range []string{")", "}", ",", "."} {
		s = strings.ReplaceAll(s, " "+p, p)
	}
	s = strings.ReplaceAll(s, "{ ", "{")
	s = strings.ReplaceAll(s, "( ", "(")
	return strings.ReplaceAll(s, "(*", "( *")
}

func TestNaive(t *testing.T) {
	m := maker{rand.New(rand.NewSource(1))}
	known := []infer.Known{{Name: "n", Type: typ("nat")}, {Name: "zero", Type: typ("prop")}}
	found, none := 0, 0
	for i := 0; i < 4000 && found < 1200; i++ {
		x, ok := m.term(known)
		if !ok {
			continue
		}
		found++
		l := notations()
		if m.Intn(2) == 0 {
			l = m.notations()
		}
		s, e := mixfix.Print(numbers(), l, known, x)
		if want := naive(known, l, x); s != want || (e == mixfix.ErrNoText) != (want == "") {
			t.Fatal(raw(x), "\n", s, e, "\n", want)
		}
		if e != api.OK {
			none++
			continue
		}
		back, e := mixfix.Read(numbers(), l, known, s, api.Type{})
		if e != api.OK || !term.Equal(back, x) {
			t.Fatal(raw(x), s, e)
		}
	}
	if found < 1000 || none > found/3 {
		t.Error(found, none)
	}
}

func TestTypeLaws(t *testing.T) {
	m := maker{rand.New(rand.NewSource(2))}
	for range 3000 {
		u := m.typ(4)
		s, e := mixfix.TypeText(u)
		back, f := mixfix.Type(s)
		if e != api.OK || f != api.OK || !types.Equal(back, u) {
			t.Fatal(u, s, e, f)
		}
		g, _ := mixfix.Grammar(nil)
		b := builder{g: g}
		tree := b.typ(u)
		l, _ := grammar.Yield(g, b.tokens, tree)
		if joined(l) != s {
			t.Fatal(s, joined(l))
		}
	}
}

// words returns a random text, of which the tokens are often those of a term.
func (m maker) words() string {
	var l []string
	word := func() string {
		return m.pick("x", "y", "zero", "nat", "a.b", "?x", "?x.3", "'a", "?'b", "+", "*", "-", "!", "if", "then", "else", "(", ")", "[", "]", ",", ".", "%", "!!", "==", "==>", "::", "=>", "{", "}", "SUM", "1", `"s"`)
	}
	for range m.Intn(7) {
		l = append(l, word())
	}
	if x, ok := m.term(nil); ok {
		if s, e := mixfix.Print(numbers(), notations(), nil, x); e == api.OK {
			l = strings.Fields(strings.NewReplacer("(", "( ", ")", " )", ",", " ,", ".", ". ").Replace(s))
		}
	}
	for range m.Intn(3) {
		if len(l) > 0 {
			i := m.Intn(len(l))
			l[i] = word()
			l = slices.Delete(l, i, i+m.Intn(2))
		}
	}
	return strings.Join(l, " ")
}

func TestLaws(t *testing.T) {
	m := maker{rand.New(rand.NewSource(3))}
	good := 0
	for range 1500 {
		s, l := m.words(), m.notations()
		if m.Intn(2) == 0 {
			l = notations()
		}
		r, at, e := mixfix.Readings(l, s, 100)
		g, _ := mixfix.Grammar(l)
		tokens, _, f := token.Scan(mixfix.Keywords(l), s)
		if grammar.Check(g) != api.OK || f != api.OK && (e != f || r != nil) {
			t.Fatal(s, e, f)
		}
		if f != api.OK {
			continue
		}
		var words []grammar.Token
		for _, x := range tokens {
			kind := map[int]string{token.Ident: "id", token.Long: "id", token.Schema: "var", token.TypeVar: "tfree", token.SchemaT: "tvar", token.Number: "num", token.String: "str", token.Quoted: "str"}[x.Kind]
			words = append(words, grammar.Token{Kind: kind, Text: x.Text})
		}
		trees, _ := grammar.Parse(g, "term", 0, words, 100)
		if (e == api.OK) != (len(trees) > 0) || len(r) > len(trees) || e != api.OK && e != api.ErrText {
			t.Fatal(s, e)
		}
		if n, _ := grammar.Reach(g, "term", 0, words); e != api.OK && (n < len(tokens) && at != tokens[n].At || n == len(tokens) && at != len(s)) {
			t.Fatal(s, at, n)
		}
		if e == api.OK && len(trees) < 100 {
			good++
			more(t, m, l, s, r)
		}
	}
	if good < 200 {
		t.Error(good)
	}
}

// more holds the readings of a text against those in brackets, and with further notations.
func more(t *testing.T, m maker, l []mixfix.Notation, s string, r []api.Term) {
	in, _, e := mixfix.Readings(l, "("+s+")", 100)
	if e != api.OK || !isWithin(r, in) {
		t.Fatal("brackets", s)
	}
	words := mixfix.Keywords(l)
	further := slices.DeleteFunc(m.notations(), func(n mixfix.Notation) bool {
		return slices.ContainsFunc(n.Words, func(w string) bool { return w != "" && !slices.Contains(words, w) }) || slices.ContainsFunc(l, func(o mixfix.Notation) bool { return o.Const == n.Const })
	})
	wide, _, e := mixfix.Readings(append(slices.Clone(l), further...), s, 100)
	if e != api.OK || len(wide) < 100 && !isWithin(r, wide) {
		t.Fatal("further", s, e)
	}
	for i := range r {
		if infer.Form(r[i]) != api.OK || slices.ContainsFunc(r[:i], func(x api.Term) bool { return term.Equal(x, r[i]) }) {
			t.Fatal("form", s)
		}
	}
}

// isWithin reports whether all terms are among others.
func isWithin(a, b []api.Term) bool {
	return !slices.ContainsFunc(a, func(x api.Term) bool {
		return !slices.ContainsFunc(b, func(y api.Term) bool { return term.Equal(x, y) })
	})
}

// TestAny gives notations, texts, types and terms of any form.
func TestAny(t *testing.T) {
	m := maker{rand.New(rand.NewSource(4))}
	for range 3000 {
		l := []mixfix.Notation{{Const: m.pick("plus", "1", ""), Kind: m.Intn(8) - 1, Words: strings.Split(m.pick("+", "", "+ +", " + ", "\xff", "(*", "x y z"), " "), Prio: m.Intn(1200) - 100}}
		for range m.Intn(3) {
			l[0].Prios = append(l[0].Prios, m.Intn(1200)-100)
		}
		s := m.pick("x + y", "", "+", "\xff", "(*", "% x. x", "x x x", "(x)")
		e := mixfix.Check(l)
		if _, _, f := mixfix.Readings(l, s, m.Intn(110)-5); e != api.OK && e != f {
			t.Fatal(l, e, f)
		}
		x := m.raw(2, 2)
		for n := range term.Nodes(&x) {
			if m.Intn(9) == 0 {
				n.Op, n.Num, n.Name = m.Intn(9)-1, m.Intn(4)-1, m.pick("", "x", "1", "\xff")
			}
		}
		if p, f := mixfix.Print(numbers(), l, nil, x); e != api.OK && e != f || f != api.OK && p != "" {
			t.Fatal(l, x, p, f)
		}
		mixfix.Read(numbers(), l, nil, s, api.Type{Op: m.Intn(5), Name: m.pick("nat", "")})
		mixfix.Type(s)
		mixfix.TypeText(api.Type{Op: m.Intn(5), Name: m.pick("nat", "a.", "\xff"), Index: m.Intn(3) - 1, Sort: []string{m.pick("c", "1", "c.d")}})
	}
}
