package outer

import "triforium/token"

// maxDigits is the greatest number of digits of a NUMBER.
const maxDigits = 7

// pattern takes the parts of a command that are next.
type pattern func()

// patterns returns what the parts of a command are, one behind the other, by its word; false for another word.
func (p *parser) patterns(word string) ([]pattern, bool) {
	table := []struct {
		words []string
		parts []pattern
	}{
		{[]string{"also", "end", "finally", "moreover", "next", "then", "ultimately"}, nil},
		{[]string{"assume"}, []pattern{p.label, p.text, p.texts}},
		{[]string{"arity"}, []pattern{p.name, p.name, p.texts}},
		{[]string{"axiom", "definition", "lemma"}, []pattern{p.name, p.colon, p.text}},
		{[]string{"by", "proof"}, []pattern{p.method}},
		{[]string{"case", "classes"}, []pattern{p.name, p.names}},
		{[]string{"consts"}, []pattern{p.name, p.colons, p.text}},
		{[]string{"datatype"}, []pattern{p.text, p.texts}},
		{[]string{"declare"}, []pattern{p.name}},
		{[]string{"fix"}, []pattern{p.variable, p.variables}},
		{[]string{"from"}, []pattern{p.name, p.names}},
		{[]string{"fun", "inductive"}, []pattern{p.name, p.colons, p.text, p.where, p.text, p.texts}},
		{[]string{"have", "show"}, []pattern{p.label, p.text}},
		{[]string{"notation"}, []pattern{p.name, p.name, p.text, p.texts, p.number, p.numbers}},
		{[]string{"note"}, []pattern{p.name, p.equal, p.name, p.names}},
		{[]string{"obtain"}, []pattern{p.variable, p.variables, p.where, p.label, p.text, p.texts}},
		{[]string{"qed"}, []pattern{p.end}},
		{[]string{"theory"}, []pattern{p.name, p.imports, p.name, p.names, p.begin}},
		{[]string{"typedecl"}, []pattern{p.name, p.number}},
	}
	for _, row := range table {
		for _, w := range row.words {
			if w == word {
				return row.parts, true
			}
		}
	}
	return nil, false
}

// isName, isText and isNumber report whether a token is a NAME, a TEXT, or a NUMBER.
func isName(t token.Token) bool { return t.Kind == token.Ident || t.Kind == token.Long }
func isText(t token.Token) bool { return t.Kind == token.String || t.Kind == token.Quoted }
func isNumber(t token.Token) bool {
	return t.Kind == token.Number && len(t.Text) <= maxDigits && (t.Text[0] != '0' || t.Text == "0")
}

// isSign reports whether a token is a keyword.
func isSign(s string) func(token.Token) bool {
	return func(t token.Token) bool { return t.Kind == token.Keyword && t.Text == s }
}

// name, text and number take one part; names, texts and numbers take as many as there are.
func (p *parser) name()    { p.want(isName, Name) }
func (p *parser) text()    { p.want(isText, Text) }
func (p *parser) number()  { p.want(isNumber, Num) }
func (p *parser) names()   { p.many(isName, p.name) }
func (p *parser) texts()   { p.many(isText, p.text) }
func (p *parser) numbers() { p.many(isNumber, p.number) }

// colon and the others take a sign.
func (p *parser) colon()   { p.want(isSign(":"), Sign) }
func (p *parser) colons()  { p.want(isSign("::"), Sign) }
func (p *parser) equal()   { p.want(isSign("="), Sign) }
func (p *parser) begin()   { p.want(isSign("begin"), Sign) }
func (p *parser) imports() { p.want(isSign("imports"), Sign) }
func (p *parser) where()   { p.want(isSign("where"), Sign) }

// label takes a LABEL.
func (p *parser) label() {
	if p.is(isName) {
		p.name()
		p.colon()
	}
}

// variable takes a VARIABLE.
func (p *parser) variable() {
	p.name()
	if p.is(isSign("::")) {
		p.colons()
		p.text()
	}
}

// variables takes as many as there are.
func (p *parser) variables() { p.many(isName, p.variable) }

// end takes a METHOD, or nothing.
func (p *parser) end() {
	if p.at < len(p.tokens) {
		p.method()
	}
}
