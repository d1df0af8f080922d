package token

import (
	"slices"
	"strings"

	"triforium/api"
)

// maxTokens is the greatest number of tokens that are joined.
const maxTokens = 1000

// write returns the text of a token, if a scan of it is the token.
func write(keywords map[string]bool, t Token) (string, api.Errno) {
	text := t.Text
	switch t.Kind {
	case String:
		text = `"` + escape(t.Text) + `"`
	case Quoted:
		text = openQuote + t.Text + closeQuote
	}
	if !isScan(keywords, text, []Token{t}) {
		return "", api.ErrForm
	}
	return text, api.OK
}

// escape returns what stands in a string for a text.
func escape(s string) string {
	return strings.NewReplacer(`\`, `\\`, `"`, `\"`, "\n", `\n`).Replace(s)
}

// isScan reports whether a text has just some tokens, wherever they stand.
func isScan(keywords map[string]bool, text string, want []Token) bool {
	l, _, e := scan(keywords, text)
	return e == api.OK && slices.EqualFunc(l, want, func(a, b Token) bool { return a.Kind == b.Kind && a.Text == b.Text })
}

// glued is how many tokens ahead of one could be changed by it, if it stood directly behind them: at most two, as in `a`, `.` and `b`.
const glued = 2

// join returns the text of tokens with as few spaces as they need.
func join(keywords map[string]bool, l []Token) (string, api.Errno) {
	if len(l) > maxTokens {
		return "", api.ErrCount
	}
	var words []string
	for _, t := range l {
		w, e := write(keywords, t)
		if e != api.OK {
			return "", e
		}
		words = append(words, w)
	}
	var text []byte
	places := make([]int, len(l))
	for i, w := range words {
		first := max(0, i-glued)
		near := ""
		if first < i {
			near = string(text[places[first]:])
		}
		if !isScan(keywords, near+w, l[first:i+1]) {
			text = append(text, ' ')
		}
		places[i] = len(text)
		text = append(text, w...)
		if len(text) > api.MaxText {
			return "", api.ErrLarge
		}
	}
	return string(text), api.OK
}

// written is a sign and the named symbol that is written for it.
type written struct{ sign, symbol string }

// writtenSigns returns the signs that have a named symbol.
func writtenSigns() []written {
	return []written{
		{"==>", `\<Longrightarrow>`}, {"-->", `\<longrightarrow>`}, {"==", `\<equiv>`}, {"=>", `\<Rightarrow>`}, {"!!", `\<And>`},
		{"%", `\<lambda>`}, {"&", `\<and>`}, {"|", `\<or>`}, {"~", `\<not>`}, {"!", `\<forall>`},
	}
}

// Symbols returns a text in which names of symbols stand for ASCII signs, and Plain the way back.
func Symbols(text string) string {
	return replace(text, func(w written) (string, string) { return w.sign, w.symbol })
}

// Plain returns a text in which ASCII signs stand for names of symbols.
func Plain(text string) string {
	return replace(text, func(w written) (string, string) { return w.symbol, w.sign })
}

// replace returns a text in which, from the left, the first of the written signs that fits is replaced.
func replace(text string, ends func(written) (from, to string)) string {
	l := writtenSigns()
	var b strings.Builder
	for text != "" {
		from, to := text[:1], text[:1]
		for _, w := range l {
			if f, t := ends(w); strings.HasPrefix(text, f) {
				from, to = f, t
				break
			}
		}
		b.WriteString(to)
		text = text[len(from):]
	}
	return b.String()
}
