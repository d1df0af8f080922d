package term

import (
	"triforium/api"
	"triforium/sort"
	"triforium/types"
)

// maxIndex is the greatest index of a Var.
const maxIndex = 1000000

// form returns the error of a term that does not have the right form.
func form(t *api.Term) api.Errno {
	if e := SizeError(t); e != api.OK {
		return e
	}
	return formWithin(t, 0)
}

// formWithin returns the error of the form of a term with a number of abstractions around.
func formWithin(t *api.Term, around int) api.Errno {
	if e := nodeForm(t, around); e != api.OK {
		return e
	}
	if t.Op == api.Abs {
		around++
	}
	for i := range t.Kids {
		if e := formWithin(&t.Kids[i], around); e != api.OK {
			return e
		}
	}
	return api.OK
}

// nodeForm returns the error of the form of a node alone.
func nodeForm(t *api.Term, around int) api.Errno {
	f := fieldsOf(t.Op)
	switch {
	case f.none:
		return api.ErrForm
	case !f.name && t.Name != "" || !f.num && t.Num != 0 || !f.typ && !isZero(&t.Type) || f.kids == 0 && len(t.Kids) != 0:
		return api.ErrForm
	case f.name && !sort.IsName(t.Name) && (t.Op != api.Abs || t.Name != ""):
		return api.ErrForm
	case t.Op == api.Var && (t.Num < 0 || t.Num > maxIndex):
		return api.ErrRange
	case t.Op == api.Bound && (t.Num < 0 || t.Num >= around):
		return ErrLoose
	case len(t.Kids) != f.kids:
		return api.ErrForm
	case f.typ:
		return types.Form(&t.Type)
	}
	return api.OK
}

// fields says which fields a kind of terms names.
type fields struct {
	name, num, typ bool
	kids           int
	none           bool // there is no such kind
}

// fieldsOf returns the fields of a kind.
func fieldsOf(op int) fields {
	switch op {
	case api.Const, api.Free:
		return fields{name: true, typ: true}
	case api.Var:
		return fields{name: true, num: true, typ: true}
	case api.Bound:
		return fields{num: true}
	case api.Abs:
		return fields{name: true, typ: true, kids: 1}
	case api.App:
		return fields{kids: 2}
	}
	return fields{none: true}
}

// isZero reports whether a type is the zero value.
func isZero(t *api.Type) bool { return types.Equal(*t, api.Type{}) }
