// Package term is layer 3: terms. See shared/doc/03-term.md.
package term

import (
	"cmp"

	"triforium/api"
	"triforium/types"
)

// Codes of layer 3.
const (
	ErrLoose api.Errno = 50 // a bound variable without its abstraction
	ErrHead  api.Errno = 51 // a term that is not of the wanted form
)

// Size returns the number of nodes of a term, without those of its types, and its depth.
func Size(t api.Term) (nodes, depth int) {
	m := meter{most: unlimited}
	m.add(&t, 1)
	return m.nodes, m.depth
}

// Check returns the type of a term of a theory, or its error.
func Check(thy api.Theory, t api.Term) (api.Type, api.Errno) {
	s, e := Open(thy)
	if e != api.OK {
		return api.Type{}, e
	}
	return s.Check(t)
}

// TypeOf returns the type of a term by the types of its variables and constants alone.
func TypeOf(t api.Term) (api.Type, api.Errno) {
	if e := form(&t); e != api.OK {
		return api.Type{}, e
	}
	u, ok := typed(&t)
	if !ok {
		return api.Type{}, api.ErrType
	}
	return types.Apply(nil, u), api.OK
}

// Equal reports whether terms are equal but for the names of bound variables; Compare orders them.
func Equal(a, b api.Term) bool { return compare(&a, &b) == 0 }

// Compare orders terms.
func Compare(a, b api.Term) int { return compare(&a, &b) }

func compare(a, b *api.Term) int {
	if c := cmp.Or(cmp.Compare(a.Op, b.Op), compareNames(a, b), cmp.Compare(a.Num, b.Num)); c != 0 {
		return c
	}
	if c := types.Compare(a.Type, b.Type); c != 0 {
		return c
	}
	for i := range min(len(a.Kids), len(b.Kids)) {
		if c := compare(&a.Kids[i], &b.Kids[i]); c != 0 {
			return c
		}
	}
	return cmp.Compare(len(a.Kids), len(b.Kids))
}

// compareNames orders the names of two nodes of one kind: that of an abstraction is a suggestion only.
func compareNames(a, b *api.Term) int {
	if a.Op == api.Abs {
		return 0
	}
	return cmp.Compare(a.Name, b.Name)
}

// Frees and Vars return the fixed and the schematic variables, and TypeVariables those of types, each once, in the order in which they occur.
func Frees(t api.Term) []api.Term { return variables(&t, api.Free) }

// Vars returns the schematic variables.
func Vars(t api.Term) []api.Term { return variables(&t, api.Var) }

// TypeVariables returns the type variables in the types.
func TypeVariables(t api.Term) []api.Type {
	var all []api.Type
	for n := range Nodes(&t) {
		all = append(all, n.Type)
	}
	return types.Variables(api.Type{Args: all})
}

// MaxIndex returns the greatest index of schematic variables and type variables, -1 without one; Raise adds a number to them.
func MaxIndex(t api.Term) int {
	greatest, found := -1, false
	see := func(index int) {
		if !found || index > greatest {
			greatest, found = index, true
		}
	}
	for n := range Nodes(&t) {
		if n.Op == api.Var {
			see(n.Num)
		}
		for u := range types.Nodes(&n.Type) {
			if u.Op == api.TVar {
				see(u.Index)
			}
		}
	}
	return greatest
}
