package types

import (
	"strconv"
	"strings"

	"triforium/api"
	"triforium/sort"
)

// Text returns the text of a type; Read the type with a text.
func Text(t api.Type) (string, api.Errno) {
	if e := Form(&t); e != api.OK {
		return "", e
	}
	var b strings.Builder
	write(&b, &t)
	return b.String(), api.OK
}

// write appends the text of a type.
func write(b *strings.Builder, t *api.Type) {
	switch t.Op {
	case api.TFree:
		b.WriteString("'" + t.Name)
	case api.TVar:
		b.WriteString("?" + t.Name + "." + strconv.Itoa(t.Index))
	default:
		b.WriteString(t.Name)
	}
	if len(t.Sort) > 0 {
		b.WriteString("{" + strings.Join(t.Sort, ",") + "}")
	}
	for i := range t.Args {
		if i == 0 {
			b.WriteString("(")
		} else {
			b.WriteString(", ")
		}
		write(b, &t.Args[i])
	}
	if len(t.Args) > 0 {
		b.WriteString(")")
	}
}

// Read returns the type with a text.
func Read(s string) (api.Type, api.Errno) {
	if len(s) > api.MaxText {
		return api.Type{}, api.ErrLarge
	}
	t, rest, ok := ReadPrefix(s)
	if !ok || rest != "" {
		return api.Type{}, api.ErrText
	}
	if e := Form(&t); e != api.OK {
		return api.Type{}, e
	}
	return t, api.OK
}

// ReadPrefix returns the type whose text a text begins with, and what is behind it. The type need not have the right form.
func ReadPrefix(s string) (t api.Type, rest string, ok bool) {
	defer func() {
		if recover() != nil {
			t, rest, ok = api.Type{}, "", false
		}
	}()
	r := reader{s}
	t = r.typ(1)
	return t, r.rest, true
}

// reader has what is not yet read. Its methods leave by a panic where there is no text of a type.
type reader struct{ rest string }

// next reports whether a text comes next, and skips it.
func (r *reader) next(s string) bool {
	rest, ok := strings.CutPrefix(r.rest, s)
	r.rest = rest
	return ok
}

// want skips a text that has to come next.
func (r *reader) want(s string) {
	if !r.next(s) {
		panic(api.ErrText)
	}
}

// word reads the bytes of names that come next, which need not be a name.
func (r *reader) word() string {
	w, rest := SplitWord(r.rest)
	r.rest = rest
	return w
}

// SplitWord returns the bytes of names that a text begins with, and what is behind them.
func SplitWord(s string) (word, rest string) {
	n := 0
	for n < len(s) && sort.IsName("_"+s[n:n+1]) {
		n++
	}
	return s[:n], s[n:]
}

// typ reads a type at a depth.
func (r *reader) typ(depth int) api.Type {
	if r.rest == "" || depth > api.MaxDepth {
		panic(api.ErrText)
	}
	t := r.head()
	if r.next("{") {
		t.Sort = r.list()
	}
	if !r.next("(") {
		return t
	}
	for {
		t.Args = append(t.Args, r.typ(depth+1))
		if r.next(")") {
			return t
		}
		r.want(", ")
	}
}

// head reads the kind, the name and the index of a type.
func (r *reader) head() api.Type {
	if r.next("'") {
		return api.Type{Op: api.TFree, Name: r.word()}
	}
	if !r.next("?") {
		return api.Type{Op: api.TCon, Name: r.word()}
	}
	name, index, ok := SplitIndex(r.word())
	if !ok {
		panic(api.ErrText)
	}
	return api.Type{Op: api.TVar, Name: name, Index: index}
}

// list reads the classes of a sort and the brace behind them.
func (r *reader) list() []string {
	var l []string
	for {
		l = append(l, r.word())
		if r.next("}") {
			return l
		}
		r.want(",")
	}
}

// SplitIndex returns the name and the index of a variable written with a dot between; a name may have dots, too.
func SplitIndex(s string) (string, int, bool) {
	i := strings.LastIndexByte(s, '.')
	if i < 0 {
		return "", 0, false
	}
	n, ok := ReadIndex(s[i+1:])
	if !ok {
		return "", 0, false
	}
	return s[:i], n, true
}

// maxDigits is the greatest number of digits of an index in a text.
const maxDigits = 7

// ReadIndex returns the number that 1 to 7 digits without a 0 ahead are.
func ReadIndex(s string) (int, bool) {
	if s == "" || len(s) > maxDigits || len(s) > 1 && s[0] == '0' {
		return 0, false
	}
	n := 0
	for i := range len(s) {
		if s[i] < '0' || s[i] > '9' {
			return 0, false
		}
		n = 10*n + int(s[i]-'0')
	}
	return n, true
}
