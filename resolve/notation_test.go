package resolve_test

import (
	"strconv"
	"strings"

	"triforium/api"
	"triforium/kernel"
	"triforium/term"
	"triforium/theory"
	"triforium/types"
)

func ty(s string) api.Type { return must(types.Read(s)) }

func must[T any](x T, e api.Errno) T {
	if e != api.OK {
		panic("error " + e.Error())
	}
	return x
}

// world has the type n, the constants c : n, s : n to n, p, q, r : n to prop, l : n to n to prop, and oracles.
func world() api.Theory {
	return must(theory.Extend(theory.Pure(), "T", api.Theory{
		Types:   []api.TypeDecl{{Name: "n"}},
		Oracles: []string{"other", "trust"},
		Consts: []api.ConstDecl{
			{Name: "c", Type: ty("n")}, {Name: "s", Type: ty("fun(n, n)")}, {Name: "p", Type: ty("fun(n, prop)")}, {Name: "q", Type: ty("fun(n, prop)")}, {Name: "r", Type: ty("fun(n, prop)")},
			{Name: "l", Type: ty("fun(n, fun(n, prop))")}, {Name: "same", Type: ty("fun(?a.0, fun(?a.0, prop))")},
		},
	}))
}

// typeOf tells the type of what has a name without one behind it.
func typeOf(name string) api.Type {
	for _, l := range [][2]string{{"c x y z w", "n"}, {"s f g", "fun(n, n)"}, {"p q r P Q", "fun(n, prop)"}, {"l L", "fun(n, fun(n, prop))"}, {"A B C D E F G", "prop"}, {"same", "fun(n, fun(n, prop))"}} {
		for _, n := range strings.Fields(l[0]) {
			if n == name {
				return ty(l[1])
			}
		}
	}
	panic("no type of " + name)
}

// reader reads propositions: `!!x. A`, `A ==> B`, `%x. t`, applications, and names: ?P.3 is schematic, c, s, p, q, r, l and same are constants, others are fixed. A type may stand behind a name in braces.
type reader struct {
	words []string
	bound []api.Term
}

// prop reads a term.
func prop(s string) api.Term {
	r := reader{words: words(s)}
	t := r.whole()
	if len(r.words) > 0 {
		panic(s)
	}
	return t
}

// words returns brackets, the signs of binders, and what stands between blanks; types in braces belong to their names.
func words(s string) []string {
	depth := 0
	var b strings.Builder
	for _, c := range s {
		depth += strings.Count("{", string(c)) - strings.Count("}", string(c))
		if depth == 0 && strings.ContainsRune("()%", c) {
			b.WriteString(" " + string(c) + " ")
		} else {
			b.WriteRune(c)
		}
	}
	return strings.Fields(strings.ReplaceAll(b.String(), "!!", " !! "))
}

func (r *reader) next() string {
	w := r.words[0]
	r.words = r.words[1:]
	return w
}

func (r *reader) at(l string) bool {
	return len(r.words) > 0 && strings.Contains(" "+l+" ", " "+r.words[0]+" ")
}

func (r *reader) whole() api.Term {
	if r.at("!! %") {
		all := r.next() == "!!"
		name := strings.TrimSuffix(r.next(), ".")
		x := named(name)
		r.bound = append(r.bound, x)
		body := term.Bind(x, r.whole())
		r.bound = r.bound[:len(r.bound)-1]
		abs := api.Term{Op: api.Abs, Name: x.Name, Type: x.Type, Kids: []api.Term{body}}
		if !all {
			return abs
		}
		return term.All(x, term.Put(body, x))
	}
	var l []api.Term
	for len(r.words) > 0 && !r.at(") ==>") {
		l = append(l, r.atom())
	}
	t := term.Apps(l[0], l[1:])
	if r.at("==>") {
		r.next()
		return term.Imp(t, r.whole())
	}
	return t
}

func (r *reader) atom() api.Term {
	if r.at("( %") {
		if r.words[0] == "%" {
			return r.whole()
		}
		r.next()
		t := r.whole()
		r.next()
		return t
	}
	t := named(r.next())
	for _, b := range r.bound {
		if b.Name == t.Name {
			return b
		}
	}
	return t
}

// named reads a name.
func named(w string) api.Term {
	t := api.Term{Op: api.Free}
	if at := strings.Index(w, "{"); at >= 0 {
		t.Type = ty(strings.ReplaceAll(strings.TrimSuffix(w[at+1:], "}"), ",", ", "))
		w = w[:at]
	}
	if strings.HasPrefix(w, "?") {
		t.Op = api.Var
		w = w[1:]
		if at := strings.Index(w, "#"); at >= 0 {
			t.Num, _ = strconv.Atoi(w[at+1:])
			w = w[:at]
		}
	} else if strings.Contains(" c s p q r l same imp all eq protect ", " "+w+" ") {
		t.Op = api.Const
	}
	t.Name = w
	if t.Type.Op == 0 {
		t.Type = typeOf(w)
	}
	return t
}

// claimed returns a theorem that an oracle states, with hypotheses.
func claimed(thy api.Theory, s string, hyps ...string) kernel.Theorem {
	return claim(thy, prop(s), hyps...)
}

func claim(thy api.Theory, t api.Term, hyps ...string) kernel.Theorem {
	for _, h := range hyps {
		t = term.Imp(prop(h), t)
	}
	th := must(kernel.Oracle(thy, "trust", t))
	for range hyps {
		a, _, _ := term.IsImp(th.Prop())
		th = must(kernel.ImpElim(th, must(kernel.Assume(thy, a))))
	}
	return th
}

// shown writes a term as it is read, with the names of its abstractions.
func shown(t api.Term) string { return show(t, nil) }

func show(t api.Term, around []string) string {
	if x, ok := term.IsAll(t); ok {
		return "!!" + x.Name + ". " + show(x.Kids[0], append(around, x.Name))
	}
	if a, b, ok := term.IsImp(t); ok {
		_, implies := term.IsAll(a)
		if _, _, ok := term.IsImp(a); ok || implies {
			return "(" + show(a, around) + ") ==> " + show(b, around)
		}
		return show(a, around) + " ==> " + show(b, around)
	}
	switch t.Op {
	case api.Bound:
		return around[len(around)-1-t.Num]
	case api.Abs:
		return "%" + t.Name + ". " + show(t.Kids[0], append(around, t.Name))
	case api.App:
		head, args := term.Spine(t)
		s := atom(head, around)
		for _, a := range args {
			s += " " + atom(a, around)
		}
		return s
	case api.Var:
		if t.Num > 0 {
			return "?" + t.Name + "#" + strconv.Itoa(t.Num)
		}
		return "?" + t.Name
	}
	return t.Name
}

func atom(t api.Term, around []string) string {
	if s := show(t, around); strings.Contains(s, " ") || strings.HasPrefix(s, "%") {
		return "(" + s + ")"
	}
	return show(t, around)
}

// said writes what a theorem states: hypotheses in brackets.
func said(th kernel.Theorem) string {
	s := ""
	for _, h := range th.Hyps() {
		s += "[" + shown(h) + "] "
	}
	return s + shown(th.Prop())
}
