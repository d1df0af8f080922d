package pattern

import (
	"iter"
	"slices"

	"triforium/api"
	"triforium/binds"
	"triforium/term"
	"triforium/types"
)

// maxVars is how many variables Least takes.
const maxVars = 50

// Match returns the instantiation of a pattern's variables that makes it equal to a term.
func Match(thy api.Theory, p, t api.Term) (api.Inst, api.Errno) {
	s, e := term.Open(thy)
	if e != api.OK {
		return api.Inst{}, e
	}
	return MatchIn(s, p, t)
}

// MatchIn is Match in the theory that has a signature.
func MatchIn(s term.Signature, p, t api.Term) (api.Inst, api.Errno) {
	m := matcher{signature: s, terms: map[key]api.Term{}}
	if e := m.add(p, t); e != api.OK {
		return api.Inst{}, e
	}
	return m.inst(), api.OK
}

// Least reports whether an instantiation is an instance of another one, as far as some variables go.
func Least(thy api.Theory, general, special api.Inst, vars []api.Term) (bool, api.Errno) {
	if len(vars) > maxVars {
		return false, api.ErrCount
	}
	if slices.ContainsFunc(vars, func(v api.Term) bool { return v.Op != api.Var }) {
		return false, api.ErrArgument
	}
	if len(vars) == 0 {
		return true, api.OK
	}
	s, e := term.Open(thy)
	if e != api.OK {
		return false, e
	}
	m := matcher{signature: s, terms: map[key]api.Term{}}
	for _, v := range vars {
		switch e := m.add(applied(general, v), applied(special, v)); e {
		case api.OK:
		case api.ErrFail:
			return false, api.OK
		default:
			return false, e
		}
	}
	return true, api.OK
}

// applied returns what an instantiation makes of a variable. A type that would be far too large becomes one that is just too large, too.
func applied(i api.Inst, v api.Term) api.Term {
	e := types.AppliedError(i.Types, &v.Type)
	bound := slices.ContainsFunc(i.Terms, func(b api.TermBind) bool { return b.Name == v.Name && b.Index == v.Num })
	if e == api.OK || bound {
		return term.Apply(i, v)
	}
	v.Type = api.Type{Op: api.TCon, Args: make([]api.Type, api.MaxType)}
	if e == api.ErrDepth {
		v.Type = api.Type{}
		for range api.MaxDepth {
			v.Type = api.Type{Args: []api.Type{v.Type}}
		}
	}
	return v
}

// matcher has the binds of patterns that have been matched.
type matcher struct {
	signature term.Signature
	types     []api.TypeBind
	terms     map[key]api.Term
}

// inst returns the binds in new memory.
func (m *matcher) inst() api.Inst {
	i := api.Inst{Types: m.types}
	for k, to := range m.terms {
		i.Terms = append(i.Terms, api.TermBind{Name: k.name, Index: k.index, To: term.Lift(to, 0)})
	}
	return binds.Sorted(i)
}

// add matches a further pattern, or returns its error.
func (m *matcher) add(p, t api.Term) (e api.Errno) {
	defer func() {
		if x := recover(); x != nil {
			e = binds.Failure(x)
		}
	}()
	typ, e := m.signature.Check(p)
	if e != api.OK {
		return e
	}
	other, e := m.signature.Check(t)
	if e != api.OK {
		return e
	}
	if !Is(p) {
		return ErrPattern
	}
	normal, e := term.Norm(t, maxFuel)
	if e != api.OK {
		return e
	}
	m.typ(typ, other)
	m.match(&p, &normal)
	if slices.ContainsFunc(m.types, func(b api.TypeBind) bool { return types.SizeError(&b.To) != api.OK }) {
		return api.ErrLarge // the type of a term may be larger than those in it
	}
	return api.OK
}

// fail leaves where a pattern does not match.
func fail() { panic(api.ErrFail) }

// typ matches types.
func (m *matcher) typ(p, t api.Type) {
	l, e := types.MatchIn(m.signature.Algebra(), p, t, m.types)
	if e != api.OK {
		fail()
	}
	m.types = l
}

// match matches a pattern, and leaves where it does not match.
func (m *matcher) match(p, t *api.Term) {
	if p.Op == api.Abs || t.Op == api.Abs {
		if p.Op == t.Op {
			m.typ(p.Type, t.Type)
		}
		a, b := body(p), body(t)
		m.match(&a, &b)
		return
	}
	head, args := spine(p)
	if head.Op == api.Var {
		m.variable(head, args, t)
		return
	}
	other, more := spine(t)
	if head.Op != other.Op || head.Name != other.Name || head.Num != other.Num || len(args) != len(more) {
		fail()
	}
	if head.Op == api.Const || head.Op == api.Free {
		m.typ(head.Type, other.Type)
	}
	for i := range args {
		m.match(args[i], more[i])
	}
}

// body returns the body of an abstraction; of another term, which is one of functions, that of the abstraction that is equal to it.
func body(t *api.Term) api.Term {
	if t.Op == api.Abs {
		return t.Kids[0]
	}
	return api.Term{Op: api.App, Kids: []api.Term{term.Lift(*t, 1), {Op: api.Bound}}}
}

// spine returns the head of a term and its arguments, which share memory with it.
func spine(t *api.Term) (*api.Term, []*api.Term) {
	var l []*api.Term
	for t.Op == api.App {
		l = append(l, &t.Kids[1])
		t = &t.Kids[0]
	}
	slices.Reverse(l)
	return t, l
}

// variable lets a term stand for a variable of the pattern that is applied to Bounds.
func (m *matcher) variable(v *api.Term, args []*api.Term, t *api.Term) {
	var x []int
	for _, a := range args {
		x = append(x, a.Num)
	}
	inner, ok := binds.Renamed(t, x, 0)
	if !ok {
		fail()
	}
	var typed []api.Type
	for u := range m.argumentTypes(&v.Type) {
		if len(typed) == len(x) {
			break
		}
		typed = append(typed, u)
	}
	to := binds.Abstracted(typed, inner)
	k := key{v.Name, v.Num}
	if old, ok := m.terms[k]; ok {
		if !term.Equal(term.Eta(old), term.Eta(to)) {
			fail()
		}
		return
	}
	if term.SizeError(&to) != api.OK {
		panic(api.ErrLarge)
	}
	m.terms[k] = to
}

// argumentTypes yields what the types of the arguments of functions of a pattern's type have become.
func (m *matcher) argumentTypes(t *api.Type) iter.Seq[api.Type] {
	return func(yield func(api.Type) bool) {
		l := m.types
		for {
			if t.Op == api.TVar && l != nil {
				// what stands for a variable is no part of the pattern any more
				to := types.Apply(l, *t)
				t, l = &to, nil
			}
			if t.Op != api.TCon || t.Name != "fun" || len(t.Args) != 2 || !yield(types.Apply(l, t.Args[0])) {
				return
			}
			t = &t.Args[1]
		}
	}
}
