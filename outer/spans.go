package outer

import (
	"iter"
	"slices"

	"triforium/api"
	"triforium/token"
)

// keywords returns all keywords of the layer.
func keywords() []string { return slices.Concat(Words(), Signs()) }

// isWord reports whether a token begins a command.
func isWord(t token.Token) bool {
	if t.Kind != token.Keyword {
		return false
	}
	_, ok := slices.BinarySearch(Words(), t.Text)
	return ok
}

// tokens yields the tokens of any text that is not too large: where a byte begins none, it goes on behind it.
func tokens(text string) iter.Seq[token.Token] {
	return func(yield func(token.Token) bool) {
		known := keywords()
		for from := 0; from < len(text); {
			l, at, e := token.Scan(known, text[from:])
			next := len(text)
			if e != api.OK {
				l, _, _ = token.Scan(known, text[from:from+at])
				next = from + at + 1
			}
			for _, t := range l {
				t.At += from
				if !yield(t) {
					return
				}
			}
			from = next
		}
	}
}

// spans returns the spans of a text that is not too large.
func spans(text string) []Span {
	var l []Span
	last := Span{}
	end := func(at int) {
		last.To = at
		if last.At < at {
			l = append(l, last)
		}
	}
	for t := range tokens(text) {
		if isWord(t) {
			end(t.At)
			last = Span{Word: t.Text, At: t.At}
		}
	}
	end(len(text))
	return l
}

// edit replaces the bytes between two places of a text.
type edit struct {
	from, to int
	text     string
}

// edited is Edited of a right edit.
func edited(old []Span, text string, e edit) ([]Span, int, api.Errno) {
	if !slices.Equal(old, spans(text)) {
		return nil, 0, api.ErrArgument
	}
	l := spans(text[:e.from] + e.text + text[e.to:])
	by := len(e.text) - (e.to - e.from)
	first, last := 0, 0 // how many spans at both ends are those of old
ends:
	for first+last < min(len(old), len(l)) {
		ahead, behind := old[first], old[len(old)-1-last]
		switch {
		case last == 0 && l[first] == ahead && ahead.To <= e.from:
			first++
		case l[len(l)-1-last] == behind.moved(by) && behind.At >= e.to:
			last++
		default:
			break ends
		}
	}
	return l, len(l) - first - last, api.OK
}

// moved returns a span at another place.
func (s Span) moved(by int) Span { return Span{s.Word, s.At + by, s.To + by} }
