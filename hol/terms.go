package hol

import (
	"triforium/api"
	"triforium/term"
	"triforium/types"
)

// BoolType returns the type bool.
func BoolType() api.Type { return api.Type{Op: api.TCon, Name: "bool"} }

// NatType returns the type nat.
func NatType() api.Type { return api.Type{Op: api.TCon, Name: "nat"} }

// to returns the type of functions from some types to another one.
func to(r api.Type, from ...api.Type) api.Type {
	for i := len(from) - 1; i >= 0; i-- {
		r = types.Fun(from[i], r)
	}
	return r
}

// holConsts returns the constants of HOL.
func holConsts() []api.ConstDecl {
	b, p, a := BoolType(), types.Prop(), api.Type{Op: api.TVar, Name: "a"}
	return []api.ConstDecl{
		{Name: "Trueprop", Type: to(p, b)},
		{Name: "True", Type: b}, {Name: "False", Type: b},
		{Name: "Not", Type: to(b, b)},
		{Name: "And", Type: to(b, b, b)}, {Name: "Or", Type: to(b, b, b)}, {Name: "Implies", Type: to(b, b, b)},
		{Name: "Equal", Type: to(b, a, a)},
		{Name: "All", Type: to(b, to(b, a))}, {Name: "Ex", Type: to(b, to(b, a))},
		{Name: "The", Type: to(a, to(b, a))},
		{Name: "If", Type: to(a, b, a, a)},
	}
}

// natConsts returns the constants of Nat.
func natConsts() []api.ConstDecl {
	b, n := BoolType(), NatType()
	return []api.ConstDecl{
		{Name: "Zero", Type: n}, {Name: "Suc", Type: to(n, n)},
		{Name: "plus", Type: to(n, n, n)}, {Name: "times", Type: to(n, n, n)},
		{Name: "le", Type: to(b, n, n)}, {Name: "less", Type: to(b, n, n)},
	}
}

// applied returns a constant of a type, applied to terms, in memory of its own.
func applied(name string, t api.Type, l ...api.Term) api.Term {
	return term.Lift(term.Apps(api.Term{Op: api.Const, Name: name, Type: t}, l), 0)
}

// Truth puts Trueprop ahead of a term of the type bool.
func Truth(t api.Term) api.Term { return applied("Trueprop", to(types.Prop(), BoolType()), t) }

// Untruth takes Trueprop away.
func Untruth(t api.Term) (api.Term, bool) {
	if t.Op != api.App || len(t.Kids) != 2 {
		return api.Term{}, false
	}
	if c := (api.Term{Op: api.Const, Name: "Trueprop", Type: to(types.Prop(), BoolType())}); !term.Equal(t.Kids[0], c) {
		return api.Term{}, false
	}
	return term.Lift(t.Kids[1], 0), true
}

// True returns the term True.
func True() api.Term { return applied("True", BoolType()) }

// False returns the term False.
func False() api.Term { return applied("False", BoolType()) }

// Not returns the negation of a term.
func Not(a api.Term) api.Term { return applied("Not", to(BoolType(), BoolType()), a) }

// And returns the conjunction of terms, Or their disjunction, Implies the implication.
func And(a, b api.Term) api.Term { return applied("And", connective(), a, b) }

// Or returns the disjunction of terms.
func Or(a, b api.Term) api.Term { return applied("Or", connective(), a, b) }

// Implies returns the implication of terms.
func Implies(a, b api.Term) api.Term { return applied("Implies", connective(), a, b) }

func connective() api.Type { return to(BoolType(), BoolType(), BoolType()) }

// typed returns the type that two terms have.
func typed(a, b api.Term) (api.Type, bool) {
	t, e := term.TypeOf(a)
	u, f := term.TypeOf(b)
	return t, e == api.OK && f == api.OK && types.Equal(t, u)
}

// Equal returns the term that two terms are equal.
func Equal(a, b api.Term) (api.Term, api.Errno) {
	t, ok := typed(a, b)
	if !ok {
		return api.Term{}, ErrTerm
	}
	return applied("Equal", to(BoolType(), t, t), a, b), api.OK
}

// All binds a Free in a term: that it holds for all, Ex that it holds for one, The the one for which it holds.
func All(x, t api.Term) (api.Term, api.Errno) { return bound("All", BoolType(), x, t) }

// Ex binds a Free in a term.
func Ex(x, t api.Term) (api.Term, api.Errno) { return bound("Ex", BoolType(), x, t) }

// The binds a Free in a term.
func The(x, t api.Term) (api.Term, api.Errno) { return bound("The", x.Type, x, t) }

// bound returns a binder's term.
func bound(name string, r api.Type, x, t api.Term) (api.Term, api.Errno) {
	if x.Op != api.Free || !isBool(t) {
		return api.Term{}, ErrTerm
	}
	return applied(name, to(r, to(BoolType(), x.Type)), over(x, t)), api.OK
}

// over returns the abstraction of a term over a Free.
func over(x, t api.Term) api.Term {
	return api.Term{Op: api.Abs, Name: x.Name, Type: x.Type, Kids: []api.Term{term.Bind(x, t)}}
}

// isBool reports whether a term has the type bool.
func isBool(t api.Term) bool {
	typ, e := term.TypeOf(t)
	return e == api.OK && types.Equal(typ, BoolType())
}

// If returns the term that is a, if p is true, otherwise b.
func If(p, a, b api.Term) (api.Term, api.Errno) {
	t, ok := typed(a, b)
	if !ok || !isBool(p) {
		return api.Term{}, ErrTerm
	}
	return applied("If", to(t, BoolType(), t, t), p, a, b), api.OK
}

// maxNumeral is the greatest number of which Numeral makes a term.
const maxNumeral = 90

// Numeral returns the term of a number from 0 on.
func Numeral(n int) (api.Term, api.Errno) {
	if n < 0 || n > maxNumeral {
		return api.Term{}, api.ErrRange
	}
	t := applied("Zero", NatType())
	for range n {
		t = applied("Suc", to(NatType(), NatType()), t)
	}
	return t, api.OK
}

// Number returns the number of a term that is one.
func Number(t api.Term) (int, bool) {
	suc := api.Term{Op: api.Const, Name: "Suc", Type: to(NatType(), NatType())}
	n := 0
	for t.Op == api.App && len(t.Kids) == 2 && term.Equal(t.Kids[0], suc) {
		n++
		t = t.Kids[1]
	}
	if !term.Equal(t, api.Term{Op: api.Const, Name: "Zero", Type: NatType()}) {
		return 0, false
	}
	return n, true
}
