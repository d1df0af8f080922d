package token

import (
	"iter"
	"strings"

	"triforium/api"
)

// scanner finds tokens in a text. Its methods leave by a panic with a fault where a text has an error.
type scanner struct {
	keywords map[string]bool
	text     string
}

// fault is an error at a place.
type fault struct {
	at   int
	code api.Errno
}

// scan returns the tokens of a text, or its first error and the place of it.
func scan(keywords map[string]bool, text string) (l []Token, at int, e api.Errno) {
	if len(text) > api.MaxText {
		return nil, 0, api.ErrLarge
	}
	defer func() {
		if x := recover(); x != nil {
			l, at, e = nil, 0, api.ErrText
			if f, ok := x.(fault); ok {
				at, e = f.at, f.code
			}
		}
	}()
	s := scanner{keywords, text}
	for t := range s.tokens() {
		l = append(l, t)
	}
	return l, 0, api.OK
}

// tokens yields the tokens of the text.
func (s *scanner) tokens() iter.Seq[Token] {
	return func(yield func(Token) bool) {
		for at := s.between(0); at < len(s.text); {
			t, end := s.next(at)
			if !yield(t) {
				return
			}
			at = s.between(end)
		}
	}
}

// between returns the place behind the blanks and comments that are at a place.
func (s *scanner) between(at int) int {
	for at < len(s.text) {
		switch {
		case has(blanks, s.text[at]):
			at++
		case strings.HasPrefix(s.text[at:], openComment):
			end := s.nested(at, openComment, closeComment)
			if end < 0 {
				panic(fault{at, ErrComment})
			}
			at = end
		default:
			return at
		}
	}
	return at
}

// next returns the token that begins at a place, and the place behind it: the longest candidate, and of equally long ones the first.
func (s *scanner) next(at int) (Token, int) {
	var best Token
	longest := at
	for _, candidate := range []func(int) (Token, int){s.keyword, s.name, s.variable, s.number, s.symbol, s.quotation, s.str} {
		if t, end := candidate(at); end > longest {
			best, longest = t, end
		}
	}
	if longest == at {
		panic(fault{at, ErrByte})
	}
	best.At = at
	return best, longest
}

// token returns the token of a kind whose text stands at a place, if the end is behind it.
func (s *scanner) token(kind, at, end int) (Token, int) {
	if end <= at {
		return Token{}, at
	}
	return Token{Kind: kind, Text: s.text[at:end]}, end
}

// while returns the place behind the bytes of a kind that are at a place.
func (s *scanner) while(at int, is func(byte) bool) int {
	for at < len(s.text) && is(s.text[at]) {
		at++
	}
	return at
}

// identifier returns the place behind the identifier at a place, the place itself if there is none.
func (s *scanner) identifier(at int) int {
	if at >= len(s.text) || !begins(s.text[at]) {
		return at
	}
	return s.while(at, goesOn)
}

// sign returns the place behind the point, the run of signs or the named symbol at a place, the place itself if there is none.
func (s *scanner) sign(at int) int {
	rest := s.text[at:]
	switch {
	case rest != "" && has(points, rest[0]):
		return at + 1
	case strings.HasPrefix(rest, `\<`):
		end := s.identifier(at + 2)
		if end > at+2 && strings.HasPrefix(s.text[end:], ">") {
			return end + 1
		}
		return at
	}
	return s.while(at, isSign)
}

// long returns the place behind identifiers with one dot between each.
func (s *scanner) long(at int) int {
	end := s.identifier(at)
	for end > at && strings.HasPrefix(s.text[end:], ".") {
		next := s.identifier(end + 1)
		if next == end+1 {
			break
		}
		end = next
	}
	return end
}

// keyword is the candidate of a keyword. A keyword that is no identifier is a run of signs, a point or a named symbol, of which no part is a token if the whole is longer.
func (s *scanner) keyword(at int) (Token, int) {
	for _, end := range [...]int{s.identifier(at), s.sign(at)} {
		if s.keywords[s.text[at:end]] {
			return s.token(Keyword, at, end)
		}
	}
	return Token{}, at
}

// name is the candidate of a name, with dots or without.
func (s *scanner) name(at int) (Token, int) {
	end := s.long(at)
	if end > s.identifier(at) {
		return s.token(Long, at, end)
	}
	return s.token(Ident, at, end)
}

// variable is the candidate of a type variable, or of a schematic one of either kind.
func (s *scanner) variable(at int) (Token, int) {
	kind, mark := TypeVar, "'"
	switch rest := s.text[at:]; {
	case strings.HasPrefix(rest, "?'"):
		kind, mark = SchemaT, "?'"
	case strings.HasPrefix(rest, "?"):
		kind, mark = Schema, "?"
	case !strings.HasPrefix(rest, "'"):
		return Token{}, at
	}
	start := at + len(mark)
	end := s.identifier(start)
	if end == start {
		return Token{}, at
	}
	if kind != TypeVar && strings.HasPrefix(s.text[end:], ".") {
		if digits := s.while(end+1, isDigit); digits > end+1 {
			end = digits
		}
	}
	return s.token(kind, at, end)
}

// number is the candidate of a number.
func (s *scanner) number(at int) (Token, int) {
	return s.token(Number, at, s.while(at, isDigit))
}

// symbol is the candidate of a symbol.
func (s *scanner) symbol(at int) (Token, int) { return s.token(Symbol, at, s.sign(at)) }

// quotation is the candidate of a quotation.
func (s *scanner) quotation(at int) (Token, int) {
	if !strings.HasPrefix(s.text[at:], openQuote) {
		return Token{}, at
	}
	end := s.nested(at, openQuote, closeQuote)
	if end < 0 {
		panic(fault{at, ErrString})
	}
	return Token{Kind: Quoted, Text: s.text[at+len(openQuote) : end-len(closeQuote)]}, end
}

// nested returns the place behind the end of what opens at a place, and may stand in itself; -1 if it has no end.
func (s *scanner) nested(at int, open, end string) int {
	depth := 0
	step := func(mark string, by int) bool {
		if !strings.HasPrefix(s.text[at:], mark) {
			return false
		}
		depth += by
		at += len(mark)
		return true
	}
	for at < len(s.text) {
		if !step(open, 1) && !step(end, -1) {
			at++
		}
		if depth == 0 {
			return at
		}
	}
	return -1
}

// str is the candidate of a string.
func (s *scanner) str(at int) (Token, int) {
	if s.text[at] != '"' {
		return Token{}, at
	}
	var b strings.Builder
	for i := at + 1; i < len(s.text) && s.text[i] != '\n'; i++ {
		c := s.text[i]
		if c == '"' {
			return Token{Kind: String, Text: b.String()}, i + 1
		}
		if c == '\\' {
			i++
			c = s.escaped(i)
			if c == 0 {
				break
			}
		}
		b.WriteByte(c)
	}
	panic(fault{at, ErrString})
}

// escaped returns what the byte at a place means behind a backslash, 0 if it means nothing.
func (s *scanner) escaped(at int) byte {
	if at >= len(s.text) {
		return 0
	}
	switch c := s.text[at]; c {
	case '"', '\\':
		return c
	case 'n':
		return '\n'
	}
	return 0
}
