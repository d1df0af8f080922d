package token

import (
	"strings"

	"triforium/api"
)

// Limits of keywords.
const (
	maxKeywords = 500
	maxKeyword  = 40 // bytes
)

// Bytes of tokens.
const (
	signs  = "!#$%&*+-/:<=>@^|~"
	points = "()[]{},;."
	blanks = " \t\n\r"
)

// What begins and ends quotations and comments.
const (
	openQuote    = `\<open>`
	closeQuote   = `\<close>`
	openComment  = "(*"
	closeComment = "*)"
)

// has reports whether a byte is one of some bytes.
func has(l string, b byte) bool { return strings.IndexByte(l, b) >= 0 }

// isDigit reports whether a byte is a digit.
func isDigit(b byte) bool { return '0' <= b && b <= '9' }

// begins reports whether an identifier may begin with a byte.
func begins(b byte) bool { return 'a' <= b && b <= 'z' || 'A' <= b && b <= 'Z' || b == '_' }

// goesOn reports whether an identifier may have a byte behind its first one.
func goesOn(b byte) bool { return begins(b) || isDigit(b) || b == '\'' }

// isSign reports whether a byte is a sign.
func isSign(b byte) bool { return has(signs, b) }

// known returns the set of keywords, or their error.
func known(keywords []string) (map[string]bool, api.Errno) {
	if len(keywords) > maxKeywords {
		return nil, api.ErrCount
	}
	set := make(map[string]bool, len(keywords))
	for _, k := range keywords {
		if !isKeyword(k) {
			return nil, ErrKeyword
		}
		if set[k] {
			return nil, api.ErrDuplicate
		}
		set[k] = true
	}
	return set, api.OK
}

// isKeyword reports whether a text is an identifier, a run of signs, a point, or a named symbol that neither opens nor closes quotations.
func isKeyword(k string) bool {
	if k == "" || len(k) > maxKeyword || k == openQuote || k == closeQuote {
		return false
	}
	s := scanner{text: k}
	return s.identifier(0) == len(k) || s.sign(0) == len(k)
}
