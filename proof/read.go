package proof

import (
	"strconv"
	"strings"

	"triforium/api"
	"triforium/term"
	"triforium/types"
)

// Read returns the proof with a text.
func Read(s string) (api.Proof, api.Errno) {
	if len(s) > maxText {
		return api.Proof{}, api.ErrLarge
	}
	p, ok := read(s)
	if !ok {
		return api.Proof{}, api.ErrText
	}
	// What was read may have parts that are not right, or be written otherwise: then there is no proof with this text.
	if back, e := Text(p); e != api.OK || back != s {
		return api.Proof{}, api.ErrText
	}
	return p, api.OK
}

// read returns the proof with a text, which need not be right.
func read(s string) (p api.Proof, ok bool) {
	defer func() {
		if recover() != nil {
			p, ok = api.Proof{}, false
		}
	}()
	r := reader{s}
	p = r.proof()
	return p, r.rest == ""
}

// reader has what is not yet read. Its methods leave by a panic where there is no text of a proof.
type reader struct{ rest string }

// next reports whether a text comes next, and skips it.
func (r *reader) next(s string) bool {
	rest, ok := strings.CutPrefix(r.rest, s)
	r.rest = rest
	return ok
}

// want skips a text that has to come next.
func (r *reader) want(s string) {
	if !r.next(s) {
		panic(api.ErrText)
	}
}

// until reads what is ahead of the first one of some bytes, which has to be there.
func (r *reader) until(stops string) string {
	n := strings.IndexAny(r.rest, stops)
	if n < 0 {
		panic(api.ErrText)
	}
	s := r.rest[:n]
	r.rest = r.rest[n:]
	return s
}

// kindOf returns the kind that is written as a word.
func kindOf(word string) int {
	for op := api.ByAxiom; op <= api.Generalize; op++ {
		if kinds[op].word == word {
			return op
		}
	}
	panic(api.ErrText)
}

// proof reads a proof.
func (r *reader) proof() api.Proof {
	r.want("(")
	p := api.Proof{Op: kindOf(r.until(" )"))}
	f := kinds[p.Op]
	if f.name {
		r.want(" ")
		p.Name = r.until(" )")
	}
	if f.term {
		r.want(" ")
		p.Term = r.term()
	}
	if f.inst {
		p.Inst = r.inst()
	}
	if f.generalizes {
		r.want(" ")
		p.Num = r.number(" ")
		r.want(" <")
		p.TypeNames = r.names(" | ")
		p.TermNames = r.names(">")
	}
	for range f.kids {
		r.want(" ")
		p.Kids = append(p.Kids, r.proof())
	}
	r.want(")")
	return p
}

// number reads a number that is not below 0, up to a stop.
func (r *reader) number(stop string) int {
	n, e := strconv.Atoi(r.until(stop))
	if e != nil {
		panic(api.ErrText)
	}
	return n
}

// part reads what stands in brackets.
func (r *reader) part() string {
	r.want("[")
	s := r.until("]")
	r.want("]")
	return s
}

// term reads a term in brackets.
func (r *reader) term() api.Term {
	t, e := term.Read(r.part())
	if e != api.OK {
		panic(e)
	}
	return t
}

// names reads names with spaces between, and the end of the list.
func (r *reader) names(end string) []string {
	var l []string
	for !r.next(end) {
		if len(l) > 0 {
			r.want(" ")
		}
		l = append(l, r.until(" >"))
	}
	return l
}

// inst reads an instantiation.
func (r *reader) inst() api.Inst {
	var i api.Inst
	r.want(" <")
	for !r.next(" | ") {
		name, index := r.bind(len(i.Types))
		t, e := types.Read(r.part())
		if e != api.OK {
			panic(e)
		}
		i.Types = append(i.Types, api.TypeBind{Name: name, Index: index, To: t})
	}
	for !r.next(">") {
		name, index := r.bind(len(i.Terms))
		i.Terms = append(i.Terms, api.TermBind{Name: name, Index: index, To: r.term()})
	}
	return i
}

// bind reads what stands ahead of the text of the bind with a number in its list. A name may have dots, too.
func (r *reader) bind(k int) (string, int) {
	if k > 0 {
		r.want(" ")
	}
	s := r.until("=")
	r.want("=")
	dot := strings.LastIndexByte(s, '.')
	if dot < 0 {
		panic(api.ErrText)
	}
	n, e := strconv.Atoi(s[dot+1:])
	if e != nil {
		panic(api.ErrText)
	}
	return s[:dot], n
}
