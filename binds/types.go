package binds

import (
	"slices"

	"triforium/api"
	"triforium/types"
)

// UnifyTypes makes types equal, as the binds make them.
func (s *State) UnifyTypes(a, b api.Type) {
	x, y := s.applied(a), s.applied(b)
	l, next, e := types.UnifyIn(s.signature.Algebra(), x, y, s.next)
	if e != api.OK {
		panic(api.ErrFail)
	}
	s.next = next
	for _, b := range l {
		s.types[key{b.Name, b.Index}] = b.To
	}
}

// applied returns a type as the binds make it. One that is larger than a type may be unifies with none.
func (s *State) applied(t api.Type) api.Type {
	if !s.typeFits(&t) {
		panic(api.ErrFail)
	}
	return s.put(&t)
}

// bound returns what stands for a type at its root.
func (s *State) bound(t *api.Type) *api.Type {
	for t.Op == api.TVar {
		to, ok := s.types[key{t.Name, t.Index}]
		if !ok {
			return t
		}
		t = &to
	}
	return t
}

// typeFits reports whether a type is no larger than one may be, as the binds make it. It is not made for this, since it could be far too large.
func (s *State) typeFits(t *api.Type) bool {
	nodes := 0
	return s.countType(t, 1, &nodes)
}

// countType counts the nodes of a type at a depth, as the binds make it; false above the limits.
func (s *State) countType(t *api.Type, depth int, nodes *int) bool {
	t = s.bound(t)
	*nodes++
	if *nodes > api.MaxType || depth > api.MaxDepth {
		return false
	}
	for i := range t.Args {
		if !s.countType(&t.Args[i], depth+1, nodes) {
			return false
		}
	}
	return true
}

// put returns a type as the binds make it, in new memory.
func (s *State) put(t *api.Type) api.Type {
	r := *s.bound(t)
	r.Sort = slices.Clone(r.Sort)
	var args []api.Type
	for i := range r.Args {
		args = append(args, s.put(&r.Args[i]))
	}
	r.Args = args
	return r
}

// Arguments returns the types of the first arguments that functions of a type take, as the binds make it, and that of the result; of all arguments, if n is negative.
// It fails, if there are not so many.
func (s *State) Arguments(t api.Type, n int) ([]api.Type, api.Type) {
	var l []api.Type
	for len(l) != n {
		f := s.bound(&t)
		if f.Op != api.TCon || f.Name != "fun" || len(f.Args) != 2 {
			if n >= 0 {
				panic(api.ErrFail)
			}
			break
		}
		l = append(l, f.Args[0])
		t = f.Args[1]
	}
	return l, t
}

// Functions returns the type of functions from some types to another one.
func Functions(l []api.Type, to api.Type) api.Type {
	for i := len(l) - 1; i >= 0; i-- {
		to = api.Type{Op: api.TCon, Name: "fun", Args: []api.Type{l[i], to}}
	}
	return to
}
