package infer

import (
	"iter"

	"triforium/api"
	"triforium/sort"
	"triforium/term"
	"triforium/types"
)

// fields says which fields a kind of raw terms names.
type fields struct {
	name, num bool
	open      bool // it has a Type, which may be zero
	kids      int
	none      bool // there is no such kind
}

// fieldsOf returns the fields of a kind.
func fieldsOf(op int) fields {
	switch op {
	case api.Const, api.Free:
		return fields{name: true, open: true}
	case api.Var:
		return fields{name: true, num: true, open: true}
	case api.Bound:
		return fields{num: true}
	case api.Abs:
		return fields{name: true, open: true, kids: 1}
	case api.App:
		return fields{kids: 2}
	case Constraint:
		return fields{kids: 1}
	}
	return fields{none: true}
}

// formWithin returns the error of the form of a raw term with a number of abstractions around.
func formWithin(t *api.Term, around int) api.Errno {
	if isWrong(t) {
		return api.ErrForm
	}
	if t.Op == api.Bound && t.Num >= around {
		return term.ErrLoose
	}
	if t.Op == api.Abs {
		around++
	}
	for i := range t.Kids {
		if e := formWithin(&t.Kids[i], around); e != api.OK {
			return e
		}
	}
	return api.OK
}

// isWrong reports whether a node alone is not of the form of raw terms.
func isWrong(t *api.Term) bool {
	f := fieldsOf(t.Op)
	switch {
	case f.none || len(t.Kids) != f.kids:
		return true
	case !f.name && t.Name != "" || !f.num && t.Num != 0 || t.Num < 0:
		return true
	case f.name && t.Op != api.Abs && !sort.IsName(t.Name):
		return true
	case t.Op == Constraint:
		return types.Form(&t.Type) != api.OK
	}
	return !isZero(&t.Type) && (!f.open || types.Form(&t.Type) != api.OK)
}

// isZero reports whether a type is the zero value.
func isZero(t *api.Type) bool { return types.Equal(*t, api.Type{}) }

// given yields the types that are given: those of known variables, of raw terms, and those that these must have.
func given(known []Known, raw []api.Term, want []api.Type) iter.Seq[*api.Type] {
	return func(yield func(*api.Type) bool) {
		for i := range known {
			if !yield(&known[i].Type) {
				return
			}
		}
		for i := range raw {
			for n := range term.Nodes(&raw[i]) {
				if !isZero(&n.Type) && !yield(&n.Type) {
					return
				}
			}
		}
		for i := range want {
			if !isZero(&want[i]) && !yield(&want[i]) {
				return
			}
		}
	}
}
