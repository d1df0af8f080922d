package term

import (
	"triforium/api"
	"triforium/sort"
	"triforium/types"
)

// Signature is what a theory whose sorts and constants have no error says of terms.
// It is made once for many terms, which then need not check the theory again.
type Signature struct {
	algebra sort.Algebra
	consts  map[string]api.Type
}

// Open returns the signature of a theory: the error of sort.Check, then that of the constants.
func Open(thy api.Theory) (Signature, api.Errno) {
	a, e := sort.Open(thy)
	if e != api.OK {
		return Signature{}, e
	}
	if len(thy.Consts) > api.MaxItems {
		return Signature{}, api.ErrCount
	}
	s := Signature{algebra: a, consts: make(map[string]api.Type, len(thy.Consts))}
	for i := range thy.Consts {
		c := &thy.Consts[i]
		if e := s.constError(c); e != api.OK {
			return Signature{}, e
		}
		s.consts[c.Name] = types.Apply(nil, c.Type)
	}
	return s, api.OK
}

// constError returns the error of a constant behind those that the signature has.
func (s Signature) constError(c *api.ConstDecl) api.Errno {
	if !sort.IsName(c.Name) {
		return api.ErrForm
	}
	if _, ok := s.consts[c.Name]; ok {
		return api.ErrDuplicate
	}
	if e := types.CheckIn(s.algebra, c.Type); e != api.OK {
		return e
	}
	for n := range types.Nodes(&c.Type) {
		if n.Op == api.TFree || n.Op == api.TVar && n.Index != 0 {
			return api.ErrForm
		}
	}
	return api.OK
}

// Algebra returns the algebra of the theory.
func (s Signature) Algebra() sort.Algebra { return s.algebra }

// Check returns the type of a term, or its error.
func (s Signature) Check(t api.Term) (api.Type, api.Errno) {
	if e := form(&t); e != api.OK {
		return api.Type{}, e
	}
	for n := range Nodes(&t) {
		if e := s.nodeError(n); e != api.OK {
			return api.Type{}, e
		}
	}
	sorts := types.Sorts{}
	for n := range Nodes(&t) {
		if !sorts.Add(&n.Type) {
			return api.Type{}, api.ErrSort
		}
	}
	if !oneType(&t) {
		return api.Type{}, api.ErrType
	}
	u, ok := typed(&t)
	if !ok {
		return api.Type{}, api.ErrType
	}
	return types.Apply(nil, u), api.OK
}

// nodeError returns the error of the type of a node, and of a constant.
func (s Signature) nodeError(t *api.Term) api.Errno {
	if !fieldsOf(t.Op).typ {
		return api.OK
	}
	if e := types.Fits(s.algebra, &t.Type); e != api.OK {
		return e
	}
	if t.Op != api.Const {
		return api.OK
	}
	declared, ok := s.consts[t.Name]
	if !ok {
		return api.ErrMissing
	}
	if _, e := types.MatchIn(s.algebra, declared, t.Type, nil); e != api.OK {
		return api.ErrType
	}
	return api.OK
}

// oneType reports whether each variable of a term has one type.
func oneType(t *api.Term) bool {
	seen := map[variable]*api.Type{}
	for n := range Nodes(t) {
		if n.Op != api.Free && n.Op != api.Var {
			continue
		}
		if old := seen[nameOf(n)]; old == nil {
			seen[nameOf(n)] = &n.Type
		} else if !types.Equal(*old, n.Type) {
			return false
		}
	}
	return true
}

// typed returns the type of a term of the right form, if it has one. The type shares memory with the term.
func typed(t *api.Term) (u api.Type, ok bool) {
	defer func() {
		if recover() != nil {
			u, ok = api.Type{}, false
		}
	}()
	return typeWithin(t, nil), true
}

// typeWithin returns the type of a term behind the abstractions around, of which the innermost is the last; it panics if there is none.
func typeWithin(t *api.Term, around []*api.Type) api.Type {
	switch t.Op {
	case api.Bound:
		return *around[len(around)-1-t.Num]
	case api.Abs:
		body := typeWithin(&t.Kids[0], append(around, &t.Type))
		return funType(t.Type, body)
	case api.App:
		f := typeWithin(&t.Kids[0], around)
		a := typeWithin(&t.Kids[1], around)
		if f.Op != api.TCon || f.Name != "fun" || len(f.Args) != 2 || !types.Equal(f.Args[0], a) {
			panic(api.ErrType)
		}
		return f.Args[1]
	}
	return t.Type
}

// funType returns the type of functions, sharing the memory of both types.
func funType(a, b api.Type) api.Type {
	return api.Type{Op: api.TCon, Name: "fun", Args: []api.Type{a, b}}
}
