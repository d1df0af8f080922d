package model

import (
	"slices"

	"triforium/api"
	"triforium/types"
)

// knownNames returns the names of the known constants: those of Pure, and those of HOL.
func knownNames() []string {
	return []string{
		"imp", "all", "eq", "protect",
		"Trueprop", "True", "False", "Not", "And", "Or", "Implies", "Equal", "All", "Ex", "The", "If",
	}
}

// isKnown reports whether a constant with a declared type is known.
func isKnown(name string, declared api.Type) bool {
	return slices.Contains(knownNames(), name) && types.Equal(declared, knownType(name))
}

// knownType returns the declared type of a known constant.
func knownType(name string) api.Type {
	p, b, a := types.Prop(), api.Type{Op: api.TCon, Name: "bool"}, api.Type{Op: api.TVar, Name: "a"}
	switch name {
	case "imp":
		return functions(p, p, p)
	case "all":
		return functions(types.Fun(a, p), p)
	case "eq":
		return functions(a, a, p)
	case "protect":
		return functions(p, p)
	case "Trueprop":
		return functions(b, p)
	case "True", "False":
		return b
	case "Not":
		return functions(b, b)
	case "And", "Or", "Implies":
		return functions(b, b, b)
	case "Equal":
		return functions(a, a, b)
	case "All", "Ex":
		return functions(types.Fun(a, b), b)
	case "The":
		return functions(types.Fun(a, b), a)
	}
	return functions(b, a, a, a) // If
}

// functions returns the type of functions from all types but the last one to this.
func functions(l ...api.Type) api.Type {
	r := l[len(l)-1]
	for i := len(l) - 2; i >= 0; i-- {
		r = types.Fun(l[i], r)
	}
	return r
}

// truth returns the element of a truth value.
func truth(b bool) int {
	if b {
		return 1
	}
	return 0
}

// knownValue returns the value of a known constant of the type of functions from some types, of its arguments.
func (w *world) knownValue(name string, from []kind) func(args []int) int {
	switch name {
	case "imp", "Implies":
		return func(x []int) int { return truth(x[0] == 0 || x[1] == 1) }
	case "eq", "Equal":
		return func(x []int) int { return truth(x[0] == x[1]) }
	case "protect", "Trueprop":
		return func(x []int) int { return x[0] }
	case "True":
		return func(x []int) int { return 1 }
	case "False":
		return func(x []int) int { return 0 }
	case "Not":
		return func(x []int) int { return 1 - x[0] }
	case "And":
		return func(x []int) int { return x[0] * x[1] }
	case "Or":
		return func(x []int) int { return max(x[0], x[1]) }
	case "all", "All":
		return func(x []int) int { return truth(x[0] == w.size(from[0])-1) } // the last set is that of all elements
	case "Ex":
		return func(x []int) int { return truth(x[0] != 0) }
	case "The":
		return func(x []int) int { return onlyElement(x[0]) }
	}
	return func(x []int) int { // If
		if x[0] == 1 {
			return x[1]
		}
		return x[2]
	}
}

// onlyElement returns the only element of a set, or 0.
func onlyElement(set int) int {
	x := 0
	for set > 1 && set%2 == 0 {
		set /= 2
		x++
	}
	if set != 1 {
		return 0
	}
	return x
}
