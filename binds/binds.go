// Package binds has what unification has found so far: binds of type variables and of variables, which are put into a term as far as it is looked at. Layers 9 and 10 share it.
package binds

import (
	"maps"
	"slices"

	"triforium/api"
	"triforium/term"
	"triforium/types"
)

// key names a schematic variable, or type variable.
type key struct {
	name  string
	index int
}

func keyOf(v *api.Term) key { return key{v.Name, v.Num} }

// State has the binds of a unification. Its methods leave by a panic: with api.ErrFail, where types fail or the rules do, and with api.ErrLarge, where something becomes too large.
// Types are kept as they were, and what stands for their variables is looked up; the terms that variables are bound to have all binds of variables in them, and are beta-normal.
type State struct {
	signature term.Signature
	types     map[key]api.Type
	terms     map[key]api.Term
	next      int // the index of the next new variable
	work      int // nodes that were made since the last beginning
}

// Open returns the state without binds for terms, their types, or their error: that of term.Check, term by term, and then that of variables whose sorts or types differ.
func Open(thy api.Theory, l []api.Term) (State, []api.Type, api.Errno) {
	if len(l) == 0 {
		return State{types: map[key]api.Type{}, terms: map[key]api.Term{}}, nil, api.OK
	}
	s, e := term.Open(thy)
	if e != api.OK {
		return State{}, nil, e
	}
	r := State{signature: s, types: map[key]api.Type{}, terms: map[key]api.Term{}}
	var all []api.Type
	for i := range l {
		t, e := s.Check(l[i])
		if e != api.OK {
			return State{}, nil, e
		}
		all = append(all, t)
		r.next = max(r.next, term.MaxIndex(l[i])+1)
	}
	if e := Differ(l); e != api.OK {
		return State{}, nil, e
	}
	return r, all, api.OK
}

// Differ returns api.ErrSort, if a type variable has two sorts in some terms, and then api.ErrType, if a variable has two types.
func Differ(l []api.Term) api.Errno {
	sorts, typed := types.Sorts{}, map[variable]*api.Type{}
	differ := false
	for i := range l {
		for n := range term.Nodes(&l[i]) {
			if !sorts.Add(&n.Type) {
				return api.ErrSort
			}
			if n.Op != api.Free && n.Op != api.Var {
				continue
			}
			v := variable{n.Op, keyOf(n)}
			if old := typed[v]; old != nil {
				differ = differ || !types.Equal(*old, n.Type)
			} else {
				typed[v] = &n.Type
			}
		}
	}
	if differ {
		return api.ErrType
	}
	return api.OK
}

// variable names a Free or a Var.
type variable struct {
	op int
	key
}

// Copy returns a state that goes on by itself.
func (s *State) Copy() State {
	r := *s
	r.types, r.terms = maps.Clone(s.types), maps.Clone(s.terms)
	return r
}

// Fresh returns a new variable of a type.
func (s *State) Fresh(t api.Type) api.Term {
	v := api.Term{Op: api.Var, Name: "H", Num: s.next, Type: t}
	s.next++
	return v
}

// Bind binds a variable to a beta-normal term that has all binds in it, and puts it into all others.
func (s *State) Bind(v, to api.Term) {
	wantSmall(&to)
	s.terms[keyOf(&v)] = to
	var touched []key
	for k := range s.terms {
		old := s.terms[k]
		if mentions(&old, keyOf(&v)) {
			touched = append(touched, k)
		}
	}
	for _, k := range touched {
		to := s.Normal(s.terms[k], api.MaxTerm)
		wantSmall(&to)
		s.terms[k] = to
	}
}

// wantSmall leaves with a term that is larger than one may be.
func wantSmall(t *api.Term) {
	if term.SizeError(t) != api.OK {
		panic(api.ErrLarge)
	}
}

// mentions reports whether a variable stands in a term.
func mentions(t *api.Term, v key) bool {
	if t.Op == api.Var {
		return keyOf(t) == v
	}
	return slices.ContainsFunc(t.Kids, func(k api.Term) bool { return mentions(&k, v) })
}

// Failure returns the code with which a method was left.
func Failure(x any) api.Errno {
	if e, ok := x.(api.Errno); ok {
		return e
	}
	return api.ErrFail
}
