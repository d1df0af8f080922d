// Package types is layer 2: types. See shared/doc/02-types.md.
package types

import (
	"cmp"
	"slices"

	"triforium/api"
	"triforium/sort"
)

// Codes of layer 2.
const (
	ErrOccurs api.Errno = 40 // a variable in its own type
)

// Fun returns the type of functions, Prop that of propositions.
func Fun(a, b api.Type) api.Type { return fun(clone(a), clone(b)) }

// fun returns the type of functions, which shares memory with both types.
func fun(a, b api.Type) api.Type {
	return api.Type{Op: api.TCon, Name: "fun", Args: []api.Type{a, b}}
}

// Prop returns the type of propositions.
func Prop() api.Type { return api.Type{Op: api.TCon, Name: "prop"} }

// Strip returns the types of the arguments of a function type, and its result.
func Strip(t api.Type) ([]api.Type, api.Type) {
	var l []api.Type
	for isFun(&t) {
		l = append(l, clone(t.Args[0]))
		t = t.Args[1]
	}
	return l, clone(t)
}

// isFun reports whether a type is one that Fun returns.
func isFun(t *api.Type) bool {
	return t.Op == api.TCon && t.Name == "fun" && t.Index == 0 && len(t.Sort) == 0 && len(t.Args) == 2
}

// Size returns the number of nodes of a type, and its depth.
func Size(t api.Type) (nodes, depth int) {
	m := meter{most: unlimited}
	m.add(&t, 1)
	return m.nodes, m.depth
}

// Check returns the error of a type of a theory.
func Check(thy api.Theory, t api.Type) api.Errno {
	a, e := sort.Open(thy)
	if e != api.OK {
		return e
	}
	return CheckIn(a, t)
}

// Equal reports whether types are equal; Compare orders them.
func Equal(a, b api.Type) bool { return compare(&a, &b) == 0 }

// Compare orders types.
func Compare(a, b api.Type) int { return compare(&a, &b) }

func compare(a, b *api.Type) int {
	c := cmp.Or(cmp.Compare(a.Op, b.Op), cmp.Compare(a.Name, b.Name), cmp.Compare(a.Index, b.Index), slices.Compare(a.Sort, b.Sort))
	if c != 0 {
		return c
	}
	for i := range min(len(a.Args), len(b.Args)) {
		if c := compare(&a.Args[i], &b.Args[i]); c != 0 {
			return c
		}
	}
	return cmp.Compare(len(a.Args), len(b.Args))
}

// Variables returns the variables of a type, each once, in the order in which they occur.
func Variables(t api.Type) []api.Type {
	c := collector{at: map[variable][]int{}}
	c.add(&t)
	return c.list
}

// Apply gives schematic variables types.
func Apply(l []api.TypeBind, t api.Type) api.Type {
	if len(l) == 0 {
		return clone(t)
	}
	return rebuild(&t, newSubst(l).change)
}

// Raise adds a number to the indices of schematic variables; MaxIndex returns the greatest one, -1 without one.
func Raise(t api.Type, n int) api.Type {
	return rebuild(&t, func(v *api.Type) (api.Type, bool) {
		r := *v
		r.Index += n
		return r, false
	})
}

// MaxIndex returns the greatest index of schematic variables, -1 without one.
func MaxIndex(t api.Type) int {
	greatest, found := -1, false
	for n := range Nodes(&t) {
		if n.Op == api.TVar && (!found || n.Index > greatest) {
			greatest, found = n.Index, true
		}
	}
	return greatest
}

// HasSort reports whether a type has a sort.
func HasSort(thy api.Theory, t api.Type, s []string) bool {
	a, e := sort.Open(thy)
	if e != api.OK || CheckIn(a, t) != api.OK {
		return false
	}
	l, e := a.Normal(s)
	return e == api.OK && hasSort(a, &t, l)
}

// HasSortIn reports whether a type of the theory that has an algebra has a sort of classes of it.
func HasSortIn(a sort.Algebra, t *api.Type, s []string) bool { return hasSort(a, t, s) }

// hasSort reports whether a type of a theory has a sort, which may have any number of classes.
func hasSort(a sort.Algebra, t *api.Type, s []string) bool {
	if len(s) == 0 {
		return true
	}
	if t.Op != api.TCon {
		return a.Less(t.Sort, s)
	}
	sorts, ok := a.Sorts(t.Name, s)
	if !ok || len(sorts) != len(t.Args) {
		return false
	}
	for i := range t.Args {
		if !hasSort(a, &t.Args[i], sorts[i]) {
			return false
		}
	}
	return true
}
