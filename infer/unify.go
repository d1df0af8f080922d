package infer

import (
	"triforium/api"
	"triforium/sort"
)

// flexible is the Op of a type that is still to be found; its Index is the number of its variable. All other variables stay what they are.
const flexible = -1

// maxTo is the greatest number of nodes of what a variable stands for.
const maxTo = 2000

// variable is a type that is to be found.
type variable struct {
	sort   []string
	to     *api.Type // what it stands for, nil at first
	nodes  int       // of what it stands for, unless this is a variable
	within []part    // the variables in whose types it stands, as long as it stands for nothing itself
}

// part says how often a variable stands in what another one, by its number, stands for.
type part struct{ variable, times int }

// unifier makes types equal, as types.Unify does, but for variables that keep what they stand for from one call to the next. Its methods leave with an error by a panic.
type unifier struct {
	algebra   sort.Algebra
	variables []variable
}

// fresh returns a new variable.
func (u *unifier) fresh(sort []string) *api.Type {
	u.variables = append(u.variables, variable{sort: sort})
	return &api.Type{Op: flexible, Index: len(u.variables) - 1}
}

// head returns what stands for a type at its root.
func (u *unifier) head(t *api.Type) *api.Type {
	for t.Op == flexible && u.variables[t.Index].to != nil {
		t = u.variables[t.Index].to
	}
	return t
}

// sortOf returns the sort of a variable, whether it is one that is to be found or not.
func (u *unifier) sortOf(t *api.Type) []string {
	if t.Op == flexible {
		return u.variables[t.Index].sort
	}
	return t.Sort
}

// unify makes types equal, from the left.
func (u *unifier) unify(a, b *api.Type) {
	a, b = u.head(a), u.head(b)
	switch {
	case a.Op == flexible && b.Op == flexible && a.Index == b.Index:
		return
	case a.Op == flexible:
		u.solve(a, b)
		return
	case b.Op == flexible:
		u.solve(b, a)
		return
	case a.Op != b.Op || a.Name != b.Name || a.Index != b.Index || len(a.Args) != len(b.Args):
		panic(api.ErrType)
	}
	for i := range a.Args {
		u.unify(&a.Args[i], &b.Args[i])
	}
}

// solve makes a variable that stands for nothing and another type equal.
func (u *unifier) solve(v, t *api.Type) {
	if u.occurs(v.Index, t, map[int]bool{}) {
		panic(api.ErrType)
	}
	if t.Op == flexible && u.algebra.Less(u.sortOf(v), u.sortOf(t)) {
		u.bind(t, v)
		return
	}
	u.narrow(t, u.sortOf(v))
	u.bind(v, t)
}

// occurs reports whether a variable occurs in a type; variables that were seen are not looked into again.
func (u *unifier) occurs(v int, t *api.Type, seen map[int]bool) bool {
	for t.Op == flexible {
		if t.Index == v {
			return true
		}
		to := u.variables[t.Index].to
		if to == nil || seen[t.Index] {
			return false
		}
		seen[t.Index] = true
		t = to
	}
	for i := range t.Args {
		if u.occurs(v, &t.Args[i], seen) {
			return true
		}
	}
	return false
}

// narrow gives a type a sort.
func (u *unifier) narrow(t *api.Type, s []string) {
	if len(s) == 0 {
		return
	}
	t = u.head(t)
	if t.Op == api.TCon {
		sorts, e := u.algebra.Args(t.Name, s)
		if e != api.OK {
			panic(api.ErrSort)
		}
		for i := range t.Args {
			u.narrow(&t.Args[i], sorts[i])
		}
		return
	}
	if u.algebra.Less(u.sortOf(t), s) {
		return
	}
	meet, e := u.algebra.Meet(u.sortOf(t), s)
	if t.Op != flexible || e != api.OK {
		panic(api.ErrSort)
	}
	u.bind(t, u.fresh(meet))
}

// bind lets a type stand for a variable, and for it in all types in which it stands.
func (u *unifier) bind(v, t *api.Type) {
	t = u.head(t)
	x := &u.variables[v.Index]
	within := x.within
	x.to, x.within = t, nil
	if t.Op == flexible {
		y := &u.variables[t.Index]
		y.within = append(y.within, within...)
		return
	}
	stand := map[int]int{}
	x.nodes = u.count(t, 0, stand)
	for _, p := range within {
		y := &u.variables[p.variable]
		y.nodes += p.times * (x.nodes - 1)
		wantSmall(y.nodes)
	}
	within = append(within, part{v.Index, 1})
	for i, n := range stand {
		y := &u.variables[i]
		for _, p := range within {
			y.within = append(y.within, part{p.variable, p.times * n})
		}
	}
}

// count returns a number of nodes with those of a type, and counts how often variables stand in it that stand for nothing.
func (u *unifier) count(t *api.Type, nodes int, stand map[int]int) int {
	t = u.head(t)
	nodes++
	wantSmall(nodes)
	if t.Op == flexible {
		stand[t.Index]++
	}
	for i := range t.Args {
		nodes = u.count(&t.Args[i], nodes, stand)
	}
	return nodes
}

// wantSmall leaves for a number of nodes of which a variable stands for none.
func wantSmall(nodes int) {
	if nodes > maxTo {
		panic(api.ErrLarge)
	}
}
