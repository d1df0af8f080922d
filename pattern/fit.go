package pattern

import (
	"slices"

	"triforium/api"
	"triforium/term"
	"triforium/types"
)

// fitter looks whether an instantiation fits to terms, which may be any ones.
type fitter struct {
	signature term.Signature
	inst      api.Inst
	types     map[key]*api.Type
	terms     map[key]*api.Term
	typed     map[key]api.Type // the types of the terms to which variables are bound
	nodes     map[key]int      // how many nodes these have
}

// newFitter returns the fitter of an instantiation, whose first bind of a variable counts.
func newFitter(s term.Signature, i api.Inst) *fitter {
	f := fitter{signature: s, inst: i, types: map[key]*api.Type{}, terms: map[key]*api.Term{}, typed: map[key]api.Type{}, nodes: map[key]int{}}
	for k := range i.Types {
		b := &i.Types[k]
		if n := (key{b.Name, b.Index}); f.types[n] == nil {
			f.types[n] = &b.To
		}
	}
	for k := range i.Terms {
		b := &i.Terms[k]
		if n := (key{b.Name, b.Index}); f.terms[n] == nil {
			f.terms[n] = &b.To
		}
	}
	return &f
}

// fits reports whether the variables of a term become what may stand in their places.
func (f *fitter) fits(t *api.Term) bool {
	for n := range term.Nodes(t) {
		for u := range types.Nodes(&n.Type) {
			if u.Op == api.TVar && !f.typeFits(u) {
				return false
			}
		}
		if n.Op == api.Var && !f.termFits(n) {
			return false
		}
	}
	return true
}

// typeFits reports whether a type variable becomes a right type of its sort.
func (f *fitter) typeFits(v *api.Type) bool {
	to := f.types[key{v.Name, v.Index}]
	if to == nil {
		return true
	}
	a := f.signature.Algebra()
	if types.CheckIn(a, *to) != api.OK {
		return false
	}
	s, e := a.Normal(v.Sort)
	return e == api.OK && types.HasSortIn(a, to, s)
}

// termFits reports whether a variable becomes a right term of its type.
func (f *fitter) termFits(v *api.Term) bool {
	n := key{v.Name, v.Num}
	to := f.terms[n]
	if to == nil {
		return true
	}
	if _, ok := f.typed[n]; !ok {
		t, e := f.signature.Check(*to)
		if e != api.OK {
			return false
		}
		f.typed[n] = t
		f.nodes[n], _ = term.Size(*to)
	}
	typ := f.typed[n]
	return f.becomes(&v.Type, &typ)
}

// becomes reports whether a type becomes another one. It is not made for this, since it could be far too large.
func (f *fitter) becomes(t, other *api.Type) bool {
	if t.Op == api.TVar {
		if to := f.types[key{t.Name, t.Index}]; to != nil {
			return types.Equal(*to, *other)
		}
	}
	if t.Op != other.Op || t.Name != other.Name || t.Index != other.Index || !slices.Equal(t.Sort, other.Sort) || len(t.Args) != len(other.Args) {
		return false
	}
	for i := range t.Args {
		if !f.becomes(&t.Args[i], &other.Args[i]) {
			return false
		}
	}
	return true
}

// small reports whether a term becomes no larger than one may be, and its types no larger than types.
func (f *fitter) small(t *api.Term) bool {
	nodes := 0
	return f.count(t, &nodes)
}

// count counts the nodes that come of a term; false above the limits.
func (f *fitter) count(t *api.Term, nodes *int) bool {
	*nodes++
	if t.Op == api.Var && f.terms[key{t.Name, t.Num}] != nil {
		*nodes += f.nodes[key{t.Name, t.Num}] - 1
		return *nodes <= api.MaxTerm
	}
	if *nodes > api.MaxTerm || types.AppliedError(f.inst.Types, &t.Type) != api.OK {
		return false
	}
	for i := range t.Kids {
		if !f.count(&t.Kids[i], nodes) {
			return false
		}
	}
	return true
}
