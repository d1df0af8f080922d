package hol

import (
	"triforium/api"
	"triforium/term"
	"triforium/types"
)

// Connective returns the name and the arguments of a term of a connective, True, False, Not, And, Or, Implies, or Equal of two terms of the type bool, with as many arguments as it takes; false for other terms.
func Connective(t api.Term) (string, []api.Term, bool) {
	head, args := term.Spine(t)
	if head.Op != api.Const {
		return "", nil, false
	}
	var want api.Type
	switch head.Name {
	case "True", "False":
		want = BoolType()
	case "Not":
		want = to(BoolType(), BoolType())
	case "And", "Or", "Implies", "Equal":
		want = connective()
	default:
		return "", nil, false
	}
	from, _ := types.Strip(want)
	return head.Name, args, len(from) == len(args) && types.Equal(head.Type, want)
}

// Atoms returns the parts of a term of the type bool that are no connectives, each once, in the order in which they stand first; at most one more than a number.
func Atoms(t api.Term, most int) []api.Term {
	var l []api.Term
	var walk func(t api.Term)
	walk = func(t api.Term) {
		_, args, ok := Connective(t)
		for _, a := range args {
			if ok {
				walk(a)
			}
		}
		if !ok && len(l) <= most && AtomIndex(l, t) < 0 {
			l = append(l, t)
		}
	}
	walk(t)
	return l
}

// AtomIndex returns the index of a term among others, -1 if it is none of them.
func AtomIndex(l []api.Term, t api.Term) int {
	for i := range l {
		if term.Equal(l[i], t) {
			return i
		}
	}
	return -1
}

// Value returns whether a term of connectives is true, if it is known whether its atoms are.
func Value(t api.Term, of func(atom api.Term) bool) bool {
	name, l, ok := Connective(t)
	if !ok {
		return of(t)
	}
	switch name {
	case "True":
		return true
	case "Not":
		return !Value(l[0], of)
	case "And":
		return Value(l[0], of) && Value(l[1], of)
	case "Or":
		return Value(l[0], of) || Value(l[1], of)
	case "Implies":
		return !Value(l[0], of) || Value(l[1], of)
	case "Equal":
		return Value(l[0], of) == Value(l[1], of)
	}
	return false
}
