package binds

import (
	"cmp"
	"slices"

	"triforium/api"
	"triforium/term"
)

// Inst returns the binds of type variables, and those of the variables that stand in some terms, by names and indices. It leaves with api.ErrLarge, if a term or a type in it is larger than one may be.
func (s *State) Inst(l []api.Term) api.Inst {
	var i api.Inst
	for k := range s.types {
		to := api.Type{Op: api.TVar, Name: k.name, Index: k.index}
		i.Types = append(i.Types, api.TypeBind{Name: k.name, Index: k.index, To: s.smallType(&to)})
	}
	for _, k := range s.wanted(l) {
		i.Terms = append(i.Terms, api.TermBind{Name: k.name, Index: k.index, To: s.Written(s.terms[k])})
	}
	return Sorted(i)
}

// Sorted returns an instantiation with its binds by names and indices.
func Sorted(i api.Inst) api.Inst {
	slices.SortFunc(i.Types, func(a, b api.TypeBind) int {
		return cmp.Or(cmp.Compare(a.Name, b.Name), cmp.Compare(a.Index, b.Index))
	})
	slices.SortFunc(i.Terms, func(a, b api.TermBind) int {
		return cmp.Or(cmp.Compare(a.Name, b.Name), cmp.Compare(a.Index, b.Index))
	})
	return i
}

// wanted returns the names of the variables of some terms that are bound, each once.
func (s *State) wanted(l []api.Term) []key {
	var r []key
	seen := map[key]bool{}
	for i := range l {
		for n := range term.Nodes(&l[i]) {
			if n.Op != api.Var || seen[keyOf(n)] {
				continue
			}
			seen[keyOf(n)] = true
			if _, ok := s.terms[keyOf(n)]; ok {
				r = append(r, keyOf(n))
			}
		}
	}
	return r
}

// smallType returns a type as the binds make it, in new memory.
func (s *State) smallType(t *api.Type) api.Type {
	if !s.typeFits(t) {
		panic(api.ErrLarge)
	}
	return s.put(t)
}

// Written returns a term in new memory with its types as the binds make them. It leaves with api.ErrLarge, if the term or a type in it is larger than one may be.
func (s *State) Written(t api.Term) api.Term {
	wantSmall(&t)
	return s.written(&t)
}

func (s *State) written(t *api.Term) api.Term {
	r := *t
	if r.Type.Op != 0 {
		r.Type = s.smallType(&t.Type)
	}
	r.Kids = nil
	for i := range t.Kids {
		r.Kids = append(r.Kids, s.written(&t.Kids[i]))
	}
	return r
}
