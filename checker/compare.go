package checker

import (
	"cmp"
	"slices"

	"triforium/api"
)

// compareLists orders lists element by element, and then the shorter one first.
func compareLists[T any](a, b []T, compare func(x, y *T) int) int {
	for i := range a {
		if i == len(b) {
			return 1
		}
		if c := compare(&a[i], &b[i]); c != 0 {
			return c
		}
	}
	return cmp.Compare(len(a), len(b))
}

// compareTypes orders types.
func compareTypes(a, b *api.Type) int {
	if c := cmp.Or(cmp.Compare(a.Op, b.Op), cmp.Compare(a.Name, b.Name), cmp.Compare(a.Index, b.Index)); c != 0 {
		return c
	}
	if c := slices.Compare(a.Sort, b.Sort); c != 0 {
		return c
	}
	return compareLists(a.Args, b.Args, compareTypes)
}

// compareTerms orders terms; the names of abstractions play no part.
func compareTerms(a, b *api.Term) int {
	if a.Op != b.Op {
		return cmp.Compare(a.Op, b.Op)
	}
	if a.Op != api.Abs && a.Name != b.Name {
		return cmp.Compare(a.Name, b.Name)
	}
	if a.Num != b.Num {
		return cmp.Compare(a.Num, b.Num)
	}
	if c := compareTypes(&a.Type, &b.Type); c != 0 {
		return c
	}
	return compareLists(a.Kids, b.Kids, compareTerms)
}

// sameType reports whether types are equal, sameTerm whether terms are.
func sameType(a, b *api.Type) bool { return compareTypes(a, b) == 0 }
func sameTerm(a, b *api.Term) bool { return compareTerms(a, b) == 0 }

// copyType returns a type in new memory.
func copyType(t api.Type) api.Type {
	t.Sort = slices.Clone(t.Sort)
	t.Args = slices.Clone(t.Args)
	for i := range t.Args {
		t.Args[i] = copyType(t.Args[i])
	}
	return t
}

// copyTerm returns a term in new memory.
func copyTerm(t api.Term) api.Term {
	t.Type = copyType(t.Type)
	t.Kids = slices.Clone(t.Kids)
	for i := range t.Kids {
		t.Kids[i] = copyTerm(t.Kids[i])
	}
	return t
}
