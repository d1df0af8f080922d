package proof

import (
	"slices"
	"strconv"
	"strings"

	"triforium/api"
	"triforium/sort"
	"triforium/term"
	"triforium/types"
)

// maxText is the greatest number of bytes of a proof's text.
const maxText = 10 * api.MaxText

// Text returns the text of a proof; Read the proof with a text.
func Text(p api.Proof) (s string, e api.Errno) {
	defer func() {
		if x := recover(); x != nil {
			s, e = "", failure(x)
		}
	}()
	if e := check(&p); e != api.OK {
		return "", e
	}
	var w writer
	w.proof(&p)
	if w.full {
		return "", api.ErrLarge
	}
	return w.text.String(), api.OK
}

// failure returns the error with which a function was left.
func failure(x any) api.Errno {
	if e, ok := x.(api.Errno); ok {
		return e
	}
	return api.ErrText
}

// writer writes a text up to its limit. Its methods leave by a panic where a part has no text; a text that is too large does not, since a part that follows may have none.
type writer struct {
	text strings.Builder
	full bool
}

// add appends texts.
func (w *writer) add(l ...string) {
	for _, s := range l {
		w.full = w.full || w.text.Len()+len(s) > maxText
		if !w.full {
			w.text.WriteString(s)
		}
	}
}

// proof appends the text of a proof of the right form.
func (w *writer) proof(p *api.Proof) {
	if !hasNames(p) {
		panic(api.ErrForm)
	}
	f := kinds[p.Op]
	w.add("(", f.word)
	if f.name {
		w.add(" ", p.Name)
	}
	if f.term {
		w.add(" ")
		w.term(&p.Term)
	}
	if f.inst {
		w.inst(&p.Inst)
	}
	if f.generalizes {
		w.add(" ", strconv.Itoa(p.Num), " <", strings.Join(p.TypeNames, " "), " | ", strings.Join(p.TermNames, " "), ">")
	}
	for i := range p.Kids {
		w.add(" ")
		w.proof(&p.Kids[i])
	}
	w.add(")")
}

// hasNames reports whether the names of a node are such, and its numbers are not below 0.
func hasNames(p *api.Proof) bool {
	none := func(s string) bool { return !sort.IsName(s) }
	return !(kinds[p.Op].name && none(p.Name)) && p.Num >= 0 &&
		!slices.ContainsFunc(p.TypeNames, none) && !slices.ContainsFunc(p.TermNames, none) &&
		!slices.ContainsFunc(p.Inst.Types, func(b api.TypeBind) bool { return none(b.Name) || b.Index < 0 }) &&
		!slices.ContainsFunc(p.Inst.Terms, func(b api.TermBind) bool { return none(b.Name) || b.Index < 0 })
}

// term appends the text of a term in brackets.
func (w *writer) term(t *api.Term) {
	s, e := term.Text(*t)
	if e != api.OK {
		panic(e)
	}
	w.add("[", s, "]")
}

// inst appends the text of an instantiation.
func (w *writer) inst(i *api.Inst) {
	w.add(" <")
	for k := range i.Types {
		w.bind(k, i.Types[k].Name, i.Types[k].Index)
		s, e := types.Text(i.Types[k].To)
		if e != api.OK {
			panic(e)
		}
		if len(s) > api.MaxText {
			panic(api.ErrLarge)
		}
		w.add("[", s, "]")
	}
	w.add(" | ")
	for k := range i.Terms {
		w.bind(k, i.Terms[k].Name, i.Terms[k].Index)
		w.term(&i.Terms[k].To)
	}
	w.add(">")
}

// bind appends what stands ahead of the text of the bind with a number in its list.
func (w *writer) bind(k int, name string, index int) {
	if k > 0 {
		w.add(" ")
	}
	w.add(name, ".", strconv.Itoa(index), "=")
}
