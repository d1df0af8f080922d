package hol

import (
	"slices"

	"triforium/api"
	"triforium/term"
	"triforium/types"
)

// Connective returns the name and the arguments, which share memory with it, of a term of a connective, True, False, Not, And, Or, Implies, or Equal of two terms of the type bool, with as many arguments as it takes; false for other terms.
func Connective(t api.Term) (string, []api.Term, bool) {
	head, args := t, []api.Term(nil)
	for head.Op == api.App && len(head.Kids) == 2 && len(args) <= 2 {
		args = append(args, head.Kids[1])
		head = head.Kids[0]
	}
	if head.Op != api.Const {
		return "", nil, false
	}
	slices.Reverse(args)
	var want api.Type
	switch head.Name {
	case "True", "False":
		want = BoolType()
	case "Not":
		want = to(BoolType(), BoolType())
	case "And", "Or", "Implies", "Equal":
		want = connective()
	default:
		return "", nil, false
	}
	from, _ := types.Strip(want)
	return head.Name, args, len(from) == len(args) && types.Equal(head.Type, want)
}

// Atoms returns the parts of a term of the type bool that are no connectives, each once, in the order in which they stand first, and at most one more than a number; they share memory with it.
func Atoms(t api.Term, most int) []api.Term {
	var l []api.Term
	var walk func(t api.Term)
	walk = func(t api.Term) {
		_, args, ok := Connective(t)
		for _, a := range args {
			if ok {
				walk(a)
			}
		}
		if !ok && len(l) <= most && AtomIndex(l, t) < 0 {
			l = append(l, t)
		}
	}
	walk(t)
	return l
}

// AtomIndex returns the index of a term among others, -1 if it is none of them.
func AtomIndex(l []api.Term, t api.Term) int {
	for i := range l {
		if term.Equal(l[i], t) {
			return i
		}
	}
	return -1
}
