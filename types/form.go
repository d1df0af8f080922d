package types

import (
	"triforium/api"
	"triforium/sort"
)

// maxIndex is the greatest index of a TVar.
const maxIndex = 1000000

// SizeError returns the error of a type that has too many nodes or too great a depth.
func SizeError(t *api.Type) api.Errno {
	m := meter{most: api.MaxType}
	m.add(t, 1)
	return m.fault()
}

// Form returns the error of a type that does not have the right form.
func Form(t *api.Type) api.Errno {
	if e := SizeError(t); e != api.OK {
		return e
	}
	for n := range Nodes(t) {
		if e := nodeForm(n); e != api.OK {
			return e
		}
	}
	return api.OK
}

// nodeForm returns the error of the form of a node alone.
func nodeForm(n *api.Type) api.Errno {
	switch {
	case n.Op == api.TCon && (n.Index != 0 || len(n.Sort) != 0):
		return api.ErrForm
	case n.Op == api.TFree && (n.Index != 0 || len(n.Args) != 0):
		return api.ErrForm
	case n.Op == api.TVar && len(n.Args) != 0:
		return api.ErrForm
	case n.Op != api.TCon && !isVariable(n):
		return api.ErrForm
	case n.Op == api.TVar && (n.Index < 0 || n.Index > maxIndex):
		return api.ErrRange
	case !sort.IsName(n.Name):
		return api.ErrForm
	}
	return sortForm(n.Sort)
}

// sortForm returns the error of a list of classes that is no sort, whatever classes there are.
func sortForm(s []string) api.Errno {
	for i, c := range s {
		if !sort.IsName(c) || i > 0 && s[i-1] >= c {
			return api.ErrForm
		}
	}
	if len(s) > api.MaxSort {
		return api.ErrCount
	}
	return api.OK
}

// CheckIn returns the error of a type of the theory that has an algebra.
func CheckIn(a sort.Algebra, t api.Type) api.Errno {
	if e := Form(&t); e != api.OK {
		return e
	}
	return Fits(a, &t)
}

// Fits returns the error of a type of the right form as one of the theory that has an algebra.
func Fits(a sort.Algebra, t *api.Type) api.Errno {
	variables := 0
	for n := range Nodes(t) {
		if e := nodeFits(a, n); e != api.OK {
			return e
		}
		if isVariable(n) {
			variables++
		}
	}
	if variables > 1 && !(Sorts{}).Add(t) {
		return api.ErrSort
	}
	return api.OK
}

// nodeFits returns the error of a node in a theory.
func nodeFits(a sort.Algebra, n *api.Type) api.Errno {
	if n.Op == api.TCon {
		takes, ok := a.Takes(n.Name)
		if !ok {
			return api.ErrMissing
		}
		if takes != len(n.Args) {
			return api.ErrCount
		}
		return api.OK
	}
	for _, c := range n.Sort {
		if !a.Has(c) {
			return api.ErrMissing
		}
	}
	if !a.IsNormal(n.Sort) {
		return api.ErrSort
	}
	return api.OK
}
