// Package theory is layer 4: theories as values. See shared/doc/04-theory.md.
package theory

import (
	"slices"

	"triforium/api"
	"triforium/term"
	"triforium/types"
)

// Codes of layer 4.
const (
	ErrDefine api.Errno = 60 // a definition that is not permitted
)

// Pure returns the theory of the framework.
func Pure() api.Theory {
	p, a := types.Prop(), api.Type{Op: api.TVar, Name: "a"}
	x := api.Term{Op: api.Var, Name: "A", Type: p}
	return api.Theory{
		Name:  "Pure",
		Types: []api.TypeDecl{{Name: "fun", Arity: 2}, {Name: "prop"}},
		Consts: []api.ConstDecl{
			{Name: "imp", Type: types.Fun(p, types.Fun(p, p))},
			{Name: "all", Type: types.Fun(types.Fun(a, p), p)},
			{Name: "eq", Type: types.Fun(a, types.Fun(a, p))},
			{Name: "protect", Type: types.Fun(p, p)},
		},
		Axioms: []api.Axiom{{Name: "protect_def", Kind: api.Plain, Prop: equation(p, term.Protect(x), x)}},
	}
}

// equation returns the equation of two terms of a type, which need not be right.
func equation(t api.Type, a, b api.Term) api.Term {
	eq := api.Term{Op: api.Const, Name: "eq", Type: types.Fun(t, types.Fun(t, types.Prop()))}
	return term.Apps(eq, []api.Term{a, b})
}

// Check returns the error of a theory.
func Check(t api.Theory) api.Errno {
	_, e := open(&t)
	return e
}

// Open returns what a theory without an error says of terms, or its error. It is made once for many terms.
func Open(t api.Theory) (term.Signature, api.Errno) {
	o, e := open(&t)
	if e != api.OK {
		return term.Signature{}, e
	}
	return o.signature, api.OK
}

// Const returns the type of a constant, Axiom an axiom of a theory.
func Const(t api.Theory, name string) (api.Type, bool) {
	for _, c := range t.Consts {
		if c.Name == name {
			return types.Apply(nil, c.Type), true
		}
	}
	return api.Type{}, false
}

// Axiom returns an axiom by its name.
func Axiom(t api.Theory, name string) (api.Axiom, bool) {
	for _, a := range t.Axioms {
		if a.Name == name {
			return cloneAxiom(a), true
		}
	}
	return api.Axiom{}, false
}

// Merge returns the theory with all that both have.
func Merge(name string, a, b api.Theory) (api.Theory, api.Errno) {
	if e := Check(a); e != api.OK {
		return api.Theory{}, e
	}
	if e := Check(b); e != api.OK {
		return api.Theory{}, e
	}
	r := joined(name, a, without(b, a))
	if !Within(b, r) {
		return api.Theory{}, api.ErrTheory
	}
	if e := Check(r); e != api.OK {
		return api.Theory{}, e
	}
	return Clone(r), api.OK
}

// Extend returns a theory with a new name and further declarations and axioms.
func Extend(t api.Theory, name string, more api.Theory) (api.Theory, api.Errno) {
	if e := Check(t); e != api.OK {
		return api.Theory{}, e
	}
	return extended(t, name, more)
}

// extended is Extend of a theory that has no error.
func extended(t api.Theory, name string, more api.Theory) (api.Theory, api.Errno) {
	if counts(without(more, t)) != counts(more) {
		return api.Theory{}, api.ErrDuplicate
	}
	r := joined(name, t, more)
	if e := Check(r); e != api.OK {
		return api.Theory{}, e
	}
	return Clone(r), api.OK
}

// Unfolded returns a term in which all defined constants are replaced by what they are.
func Unfolded(t api.Theory, x api.Term) (api.Term, api.Errno) {
	o, e := open(&t)
	if e != api.OK {
		return api.Term{}, e
	}
	if _, e := o.signature.Check(x); e != api.OK {
		return api.Term{}, e
	}
	return o.unfolded(x)
}

// Define returns a theory with a further constant and its definition, which is an axiom with the constant's name and _def.
func Define(t api.Theory, name string, c string, rhs api.Term) (api.Theory, api.Errno) {
	o, e := open(&t)
	if e != api.OK {
		return api.Theory{}, e
	}
	u, e := o.right(rhs)
	if e != api.OK {
		return api.Theory{}, e
	}
	u = general(u)
	more := definition(c, u, c+"_def", rhs)
	more.Consts = []api.ConstDecl{{Name: c, Type: u}}
	return extended(t, name, more)
}

// Overload returns a theory in which a constant that has no definition is defined at a type constructor.
func Overload(t api.Theory, name string, c string, at api.Type, rhs api.Term) (api.Theory, api.Errno) {
	o, e := open(&t)
	if e != api.OK {
		return api.Theory{}, e
	}
	declared, ok := Const(t, c)
	if !ok {
		return api.Theory{}, api.ErrMissing
	}
	if len(types.Variables(declared)) != 1 {
		return api.Theory{}, ErrDefine
	}
	if e := types.CheckIn(o.signature.Algebra(), at); e != api.OK {
		return api.Theory{}, e
	}
	u, e := o.right(rhs)
	if e != api.OK {
		return api.Theory{}, e
	}
	if x, ok := o.instance(c, u); !ok || !types.Equal(x, at) {
		return api.Theory{}, api.ErrType
	}
	// Whether a definition is permitted at this type is a question of the result, behind that of its Name and others.
	return extended(t, name, definition(c, general(u), c+"_"+at.Name+"_def", rhs))
}

// right returns the type of the right side of a definition that is to be made, or its error.
func (o *opened) right(rhs api.Term) (api.Type, api.Errno) {
	u, e := o.signature.Check(rhs)
	if e != api.OK {
		return api.Type{}, e
	}
	schematic := slices.ContainsFunc(term.TypeVariables(rhs), func(v api.Type) bool { return v.Op == api.TVar })
	if schematic || len(term.Frees(rhs)) > 0 || len(term.Vars(rhs)) > 0 {
		return api.Type{}, ErrDefine
	}
	return u, api.OK
}

// definition returns what extends a theory by the definition of a constant at a general type.
func definition(c string, t api.Type, name string, rhs api.Term) api.Theory {
	left := api.Term{Op: api.Const, Name: c, Type: t}
	prop := equation(t, left, generalTerm(rhs))
	return api.Theory{Axioms: []api.Axiom{{Name: name, Kind: api.Defining, Prop: prop}}}
}

// general returns a type whose TFrees have become TVars with the index 0.
func general(t api.Type) api.Type {
	r := types.Apply(nil, t)
	for n := range types.Nodes(&r) {
		if n.Op == api.TFree {
			n.Op = api.TVar
		}
	}
	return r
}

// generalTerm returns a term whose types are general.
func generalTerm(t api.Term) api.Term {
	r := term.Lift(t, 0)
	for n := range term.Nodes(&r) {
		n.Type = general(n.Type)
	}
	return r
}
