package types

import (
	"slices"

	"triforium/api"
	"triforium/sort"
)

// bound names a TVar for which a type stands.
type bound struct {
	name  string
	index int
}

// boundOf returns the key of a TVar.
func boundOf(t *api.Type) bound { return bound{t.Name, t.Index} }

// subst is a substitution.
type subst map[bound]*api.Type

// newSubst returns the substitution of binds; of several for one variable the first one counts.
func newSubst(l []api.TypeBind) subst {
	s := make(subst, len(l))
	for i := range l {
		b := bound{l[i].Name, l[i].Index}
		if _, ok := s[b]; !ok {
			s[b] = &l[i].To
		}
	}
	return s
}

// change returns what stands for a TVar, or the TVar, whose Args follow.
func (s subst) change(v *api.Type) (api.Type, bool) {
	if to, ok := s[boundOf(v)]; ok {
		return *to, true
	}
	return *v, false
}

// measure counts what stands for a type at a depth; false above the limit.
func (s subst) measure(m *meter, t *api.Type, depth int) bool {
	if t.Op == api.TVar {
		if to, ok := s[boundOf(t)]; ok {
			return m.add(to, depth)
		}
	}
	if !m.node(depth) {
		return false
	}
	for i := range t.Args {
		if !s.measure(m, &t.Args[i], depth+1) {
			return false
		}
	}
	return true
}

// AppliedError returns the error of the size of what Apply would return, without making it.
func AppliedError(l []api.TypeBind, t *api.Type) api.Errno {
	m := meter{most: api.MaxType}
	newSubst(l).measure(&m, t, 1)
	return m.fault()
}

// Match returns binds behind some, with which a pattern is a type.
func Match(thy api.Theory, pattern, t api.Type, l []api.TypeBind) ([]api.TypeBind, api.Errno) {
	a, e := sort.Open(thy)
	if e != api.OK {
		return nil, e
	}
	if e := CheckIn(a, pattern); e != api.OK {
		return nil, e
	}
	if e := CheckIn(a, t); e != api.OK {
		return nil, e
	}
	if len(l) > api.MaxItems {
		return nil, api.ErrCount
	}
	for _, b := range l {
		if e := CheckIn(a, b.To); e != api.OK {
			return nil, e
		}
	}
	return MatchIn(a, pattern, t, l)
}

// MatchIn is Match for types and binds that have no error in the theory that has an algebra.
func MatchIn(a sort.Algebra, pattern, t api.Type, l []api.TypeBind) ([]api.TypeBind, api.Errno) {
	m := matcher{algebra: a, subst: newSubst(l)}
	if !m.match(&pattern, &t) {
		return nil, api.ErrFail
	}
	r := make([]api.TypeBind, 0, len(l)+len(m.more))
	for _, b := range slices.Concat(l, m.more) {
		b.To = clone(b.To)
		r = append(r, b)
	}
	return r, api.OK
}

// matcher collects binds behind those that it has.
type matcher struct {
	algebra sort.Algebra
	subst   subst
	more    []api.TypeBind
}

// match makes a pattern a type, node by node, from the left.
func (m *matcher) match(pattern, t *api.Type) bool {
	if pattern.Op == api.TVar {
		return m.variable(pattern, t)
	}
	if pattern.Op != t.Op || pattern.Name != t.Name || len(pattern.Args) != len(t.Args) || !slices.Equal(pattern.Sort, t.Sort) {
		return false
	}
	for i := range pattern.Args {
		if !m.match(&pattern.Args[i], &t.Args[i]) {
			return false
		}
	}
	return true
}

// variable lets a type stand for a variable of the pattern.
func (m *matcher) variable(v, t *api.Type) bool {
	if to, ok := m.subst[boundOf(v)]; ok {
		return compare(to, t) == 0
	}
	if !hasSort(m.algebra, t, v.Sort) {
		return false
	}
	m.subst[boundOf(v)] = t
	m.more = append(m.more, api.TypeBind{Name: v.Name, Index: v.Index, To: *t})
	return true
}
