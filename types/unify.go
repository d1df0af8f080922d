package types

import (
	"cmp"
	"slices"

	"triforium/api"
	"triforium/sort"
)

// maxTo is the greatest number of nodes of what is bound during unification.
const maxTo = 2000

// Unify returns the most general binds that make types equal.
func Unify(thy api.Theory, a, b api.Type) ([]api.TypeBind, api.Errno) {
	g, e := sort.Open(thy)
	if e != api.OK {
		return nil, e
	}
	l, _, e := UnifyIn(g, a, b, 0)
	return l, e
}

// UnifyIn is Unify in the theory that has an algebra, where the indices of new variables are from next on; it returns the index behind theirs.
func UnifyIn(g sort.Algebra, a, b api.Type, next int) (l []api.TypeBind, behind int, e api.Errno) {
	defer func() {
		if x := recover(); x != nil {
			l, behind, e = nil, 0, failure(x)
		}
	}()
	if e := CheckIn(g, a); e != api.OK {
		return nil, 0, e
	}
	if e := CheckIn(g, b); e != api.OK {
		return nil, 0, e
	}
	if s := (Sorts{}); !s.Add(&a) || !s.Add(&b) {
		return nil, 0, api.ErrSort
	}
	u := unifier{algebra: g, binds: subst{}, next: max(MaxIndex(a)+1, MaxIndex(b)+1, next)}
	u.unify(&a, &b)
	if l, e = u.result(); e != api.OK {
		return nil, 0, e
	}
	return l, u.next, api.OK
}

// failure returns the error with which a function was left.
func failure(x any) api.Errno {
	if e, ok := x.(api.Errno); ok {
		return e
	}
	return api.ErrFail
}

// unifier has the binds made so far, each of which has been applied to the others. Its methods leave with an error by a panic.
type unifier struct {
	algebra sort.Algebra
	binds   subst
	next    int // the index of the next new variable
}

// head returns what stands for a type, if it is a bound variable, otherwise the type.
func (u *unifier) head(t *api.Type) *api.Type {
	if t.Op == api.TVar {
		if to, ok := u.binds[boundOf(t)]; ok {
			return to
		}
	}
	return t
}

// unify makes types equal, from the left.
func (u *unifier) unify(a, b *api.Type) {
	a, b = u.head(a), u.head(b)
	switch {
	case a.Op == api.TVar && b.Op == api.TVar && boundOf(a) == boundOf(b):
		return
	case a.Op == api.TVar:
		u.solve(a, b)
		return
	case b.Op == api.TVar:
		u.solve(b, a)
		return
	case a.Op != b.Op || a.Name != b.Name || len(a.Args) != len(b.Args):
		panic(api.ErrFail)
	}
	for i := range a.Args {
		u.unify(&a.Args[i], &b.Args[i])
	}
}

// solve makes a variable without a bind and another type equal.
func (u *unifier) solve(v, t *api.Type) {
	if u.occurs(boundOf(v), t, map[bound]bool{}) {
		panic(ErrOccurs)
	}
	if t.Op == api.TVar && u.algebra.Less(v.Sort, t.Sort) {
		u.bind(t, v)
		return
	}
	u.narrow(t, v.Sort)
	u.bind(v, t)
}

// occurs reports whether a variable occurs in a type behind the binds; variables that were seen are not looked into again.
func (u *unifier) occurs(v bound, t *api.Type, seen map[bound]bool) bool {
	if t.Op == api.TVar {
		b := boundOf(t)
		if b == v {
			return true
		}
		to, ok := u.binds[b]
		if !ok || seen[b] {
			return false
		}
		seen[b] = true
		t = to
		if t.Op == api.TVar {
			return boundOf(t) == v
		}
	}
	for i := range t.Args {
		if u.occurs(v, &t.Args[i], seen) {
			return true
		}
	}
	return false
}

// narrow gives a type a sort by binds of its variables.
func (u *unifier) narrow(t *api.Type, s []string) {
	if len(s) == 0 {
		return
	}
	t = u.head(t)
	if t.Op == api.TCon {
		sorts, e := u.algebra.Args(t.Name, s)
		if e != api.OK {
			panic(api.ErrSort)
		}
		for i := range t.Args {
			u.narrow(&t.Args[i], sorts[i])
		}
		return
	}
	if u.algebra.Less(t.Sort, s) {
		return
	}
	meet, e := u.algebra.Meet(t.Sort, s)
	if t.Op != api.TVar || e != api.OK {
		panic(api.ErrSort)
	}
	fresh := api.Type{Op: api.TVar, Name: t.Name, Index: u.next, Sort: meet}
	u.next++
	u.bind(t, &fresh)
}

// bind binds a variable to a type, and applies this to the other binds.
func (u *unifier) bind(v, t *api.Type) {
	g := grower{u.binds, maxTo}
	to := g.apply(t)
	b := boundOf(v)
	one := subst{b: &to}
	for k, old := range u.binds {
		if mentions(old, b) {
			g := grower{one, maxTo}
			more := g.apply(old)
			u.binds[k] = &more
		}
	}
	u.binds[b] = &to
}

// mentions reports whether a TVar occurs in a type.
func mentions(t *api.Type, b bound) bool {
	for n := range Nodes(t) {
		if n.Op == api.TVar && boundOf(n) == b {
			return true
		}
	}
	return false
}

// grower applies binds, and panics as soon as the result has too many nodes.
type grower struct {
	binds subst
	left  int
}

// take counts nodes.
func (g *grower) take(nodes int) {
	g.left -= nodes
	if g.left < 0 {
		panic(api.ErrLarge)
	}
}

// apply returns a type behind the binds; it shares memory with them.
func (g *grower) apply(t *api.Type) api.Type {
	if t.Op == api.TVar {
		if to, ok := g.binds[boundOf(t)]; ok {
			nodes, _ := Size(*to)
			g.take(nodes)
			return *to
		}
	}
	g.take(1)
	r := *t
	r.Args = make([]api.Type, len(t.Args))
	for i := range t.Args {
		r.Args[i] = g.apply(&t.Args[i])
	}
	return r
}

// result returns the binds by names and indices, or the error of one that is too large.
func (u *unifier) result() ([]api.TypeBind, api.Errno) {
	l := make([]api.TypeBind, 0, len(u.binds))
	for b, to := range u.binds {
		l = append(l, api.TypeBind{Name: b.name, Index: b.index, To: *to})
	}
	slices.SortFunc(l, func(x, y api.TypeBind) int {
		return cmp.Or(cmp.Compare(x.Name, y.Name), cmp.Compare(x.Index, y.Index))
	})
	for i := range l {
		if e := SizeError(&l[i].To); e != api.OK {
			return nil, e
		}
		l[i].To = clone(l[i].To)
	}
	return l, api.OK
}
