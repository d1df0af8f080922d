package term

import (
	"strconv"
	"strings"

	"triforium/api"
	"triforium/types"
)

// Text returns the text of a term; Read the term with a text.
func Text(t api.Term) (string, api.Errno) {
	if e := form(&t); e != api.OK {
		return "", e
	}
	return write(&t)
}

// write returns the text of a term of the right form.
func write(t *api.Term) (s string, e api.Errno) {
	defer func() {
		if x := recover(); x != nil {
			s, e = "", failure(x)
		}
	}()
	var w writer
	w.term(t)
	return w.text.String(), api.OK
}

// writer writes a text, and panics as soon as it is too large.
type writer struct{ text strings.Builder }

// add appends texts.
func (w *writer) add(l ...string) {
	for _, s := range l {
		if w.text.Len()+len(s) > api.MaxText {
			panic(api.ErrLarge)
		}
		w.text.WriteString(s)
	}
}

// typ appends a colon and the text of a type.
func (w *writer) typ(t *api.Type) {
	s, e := types.Text(*t)
	if e != api.OK {
		panic(e)
	}
	w.add(":", s)
}

// term appends the text of a term.
func (w *writer) term(t *api.Term) {
	switch t.Op {
	case api.Const:
		w.add(t.Name)
		w.typ(&t.Type)
	case api.Free:
		w.add("$", t.Name)
		w.typ(&t.Type)
	case api.Var:
		w.add("?", t.Name, ".", strconv.Itoa(t.Num))
		w.typ(&t.Type)
	case api.Bound:
		w.add("#", strconv.Itoa(t.Num))
	case api.Abs:
		w.add("(\\", t.Name)
		w.typ(&t.Type)
		w.add(" . ")
		w.term(&t.Kids[0])
		w.add(")")
	case api.App:
		w.add("(")
		w.term(&t.Kids[0])
		w.add(" ")
		w.term(&t.Kids[1])
		w.add(")")
	}
}

// Read returns the term with a text.
func Read(s string) (api.Term, api.Errno) {
	if len(s) > api.MaxText {
		return api.Term{}, api.ErrLarge
	}
	t, ok := read(s)
	if !ok {
		return api.Term{}, api.ErrText
	}
	if e := form(&t); e != api.OK {
		return api.Term{}, e
	}
	return t, api.OK
}

// read returns the term with a text, which need not have the right form.
func read(s string) (t api.Term, ok bool) {
	defer func() {
		if recover() != nil {
			t, ok = api.Term{}, false
		}
	}()
	r := reader{s}
	t = r.term(1)
	return t, r.rest == ""
}

// reader has what is not yet read. Its methods leave by a panic where there is no text of a term.
type reader struct{ rest string }

// next reports whether a text comes next, and skips it.
func (r *reader) next(s string) bool {
	rest, ok := strings.CutPrefix(r.rest, s)
	r.rest = rest
	return ok
}

// want skips a text that has to come next.
func (r *reader) want(s string) {
	if !r.next(s) {
		panic(api.ErrText)
	}
}

// until reads what is ahead of one of some bytes.
func (r *reader) until(stops string) string {
	n := strings.IndexAny(r.rest, stops)
	if n < 0 {
		n = len(r.rest)
	}
	s := r.rest[:n]
	r.rest = r.rest[n:]
	return s
}

// typ reads a colon and a type.
func (r *reader) typ() api.Type {
	r.want(":")
	t, rest, ok := types.ReadPrefix(r.rest)
	if !ok {
		panic(api.ErrText)
	}
	r.rest = rest
	return t
}

// term reads a term at a depth.
func (r *reader) term(depth int) api.Term {
	if depth > api.MaxDepth {
		panic(api.ErrText)
	}
	switch {
	case r.next("(\\"):
		name := r.word()
		t := r.typ()
		r.want(" . ")
		body := r.term(depth + 1)
		r.want(")")
		return api.Term{Op: api.Abs, Name: name, Type: t, Kids: []api.Term{body}}
	case r.next("("):
		f := r.term(depth + 1)
		r.want(" ")
		a := r.term(depth + 1)
		r.want(")")
		return app(f, a)
	case r.next("#"):
		return api.Term{Op: api.Bound, Num: r.index(r.until(") "))}
	case r.next("?"):
		name, n, ok := types.SplitIndex(r.word())
		if !ok {
			panic(api.ErrText)
		}
		return api.Term{Op: api.Var, Name: name, Num: n, Type: r.typ()}
	}
	op := api.Const
	if r.next("$") {
		op = api.Free
	}
	name := r.word()
	return api.Term{Op: op, Name: name, Type: r.typ()}
}

// word reads the bytes of names that come next, which need not be a name.
func (r *reader) word() string {
	w, rest := types.SplitWord(r.rest)
	r.rest = rest
	return w
}

// index reads a number.
func (r *reader) index(s string) int {
	n, ok := types.ReadIndex(s)
	if !ok {
		panic(api.ErrText)
	}
	return n
}
