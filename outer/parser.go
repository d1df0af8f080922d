package outer

import (
	"strconv"
	"strings"

	"triforium/api"
	"triforium/token"
)

// parser takes the parts of a command from tokens. Its methods leave by a panic with the place of a token that is not as it must be.
type parser struct {
	source string
	tokens []token.Token
	at     int // how many tokens are taken
	parts  []Part
}

// read returns the command of the tokens of a text.
func read(source string, tokens []token.Token) (c Command, at int, e api.Errno) {
	defer func() {
		if x := recover(); x != nil {
			c, e = Command{}, ErrCommand
			at, _ = x.(int)
		}
	}()
	p := parser{source: source, tokens: tokens}
	word := p.next(isWord)
	parts, _ := p.patterns(word.Text)
	for _, take := range parts {
		take()
	}
	if p.at < len(tokens) {
		panic(p.place())
	}
	return Command{Word: word.Text, At: word.At, Parts: p.parts}, 0, api.OK
}

// place returns the place of the next token, the end of the text without one.
func (p *parser) place() int {
	if p.at < len(p.tokens) {
		return p.tokens[p.at].At
	}
	return len(p.source)
}

// is reports whether there is a next token of a kind.
func (p *parser) is(kind func(token.Token) bool) bool {
	return p.at < len(p.tokens) && kind(p.tokens[p.at])
}

// next takes the next token, which must be of a kind.
func (p *parser) next(kind func(token.Token) bool) token.Token {
	if !p.is(kind) {
		panic(p.place())
	}
	t := p.tokens[p.at]
	p.at++
	return t
}

// want takes a part of a kind.
func (p *parser) want(is func(token.Token) bool, kind int) {
	t := p.next(is)
	part := Part{Kind: kind, Text: t.Text, At: t.At}
	if kind == Num {
		n, e := strconv.Atoi(t.Text)
		if e != nil {
			panic(t.At)
		}
		part.Text, part.Num = "", n
	}
	p.parts = append(p.parts, part)
}

// many takes parts that begin with a token of a kind, as many as there are.
func (p *parser) many(is func(token.Token) bool, take func()) {
	for p.is(is) {
		take()
	}
}

// method takes all tokens that are left, none of which is a word.
func (p *parser) method() {
	first := p.next(isNoWord)
	last := first
	for p.at < len(p.tokens) {
		last = p.next(isNoWord)
	}
	end := last.At + len(written(last))
	p.parts = append(p.parts, Part{Kind: Method, Text: p.source[first.At:end], At: first.At})
}

// isNoWord reports whether a token is not a word.
func isNoWord(t token.Token) bool { return !isWord(t) }

// written returns the text of a token that was scanned.
func written(t token.Token) string {
	s, e := token.Write(keywords(), t)
	if e != api.OK {
		panic(t.At)
	}
	return s
}

// write returns the text of a command, false if a part has none.
func write(c Command) (string, bool) {
	words := []string{c.Word}
	for _, p := range c.Parts {
		s := p.Text
		switch p.Kind {
		case Num:
			s = strconv.Itoa(p.Num)
		case Text:
			var e api.Errno
			if s, e = token.Write(nil, token.Token{Kind: token.String, Text: p.Text}); e != api.OK {
				return "", false
			}
		}
		words = append(words, s)
	}
	return strings.Join(words, " "), true
}

// same reports whether commands are the same, but for their places.
func same(a, b Command) bool {
	if a.Word != b.Word || len(a.Parts) != len(b.Parts) {
		return false
	}
	for i := range a.Parts {
		p, q := a.Parts[i], b.Parts[i]
		p.At, q.At = 0, 0
		if p != q {
			return false
		}
	}
	return true
}
