package term

import (
	"iter"
	"math"

	"triforium/api"
	"triforium/types"
)

// unlimited is the limit of a meter that counts all nodes.
const unlimited = math.MaxInt

// Nodes yields the nodes of a term, each one ahead of its Kids.
func Nodes(t *api.Term) iter.Seq[*api.Term] {
	return func(yield func(*api.Term) bool) { walk(t, yield) }
}

// walk yields the nodes of a term until one is refused.
func walk(t *api.Term, yield func(*api.Term) bool) bool {
	if !yield(t) {
		return false
	}
	for i := range t.Kids {
		if !walk(&t.Kids[i], yield) {
			return false
		}
	}
	return true
}

// meter counts nodes and their depth, and gives up above a limit, since shared memory lets a small value have very many nodes.
type meter struct {
	nodes, depth  int
	most, deepest int
}

// add counts a term whose root has a depth; false above the limit.
func (m *meter) add(t *api.Term, depth int) bool {
	m.nodes++
	m.depth = max(m.depth, depth)
	if m.nodes > m.most {
		return false
	}
	for i := range t.Kids {
		if !m.add(&t.Kids[i], depth+1) {
			return false
		}
	}
	return true
}

// SizeError returns the error of a term that has too many nodes or too great a depth.
func SizeError(t *api.Term) api.Errno {
	return meter{most: api.MaxTerm, deepest: api.MaxDepth}.error(t)
}

// error returns the error of a term that is larger than the limits.
func (m meter) error(t *api.Term) api.Errno {
	m.add(t, 1)
	switch {
	case m.nodes > m.most:
		return api.ErrCount
	case m.depth > m.deepest:
		return api.ErrDepth
	}
	return api.OK
}

// clone returns a term in new memory.
func clone(t api.Term) api.Term {
	t.Type = types.Apply(nil, t.Type)
	if len(t.Kids) == 0 {
		t.Kids = nil
		return t
	}
	kids := make([]api.Term, len(t.Kids))
	for i := range t.Kids {
		kids[i] = clone(t.Kids[i])
	}
	t.Kids = kids
	return t
}

// variables returns the variables of a kind, each once, without Kids.
func variables(t *api.Term, op int) []api.Term {
	var l []api.Term
	at := map[variable][]int{}
	for n := range Nodes(t) {
		if n.Op != op {
			continue
		}
		v, x := nameOf(n), *n
		x.Kids = nil
		if !among(l, at[v], &x) {
			at[v] = append(at[v], len(l))
			l = append(l, clone(x))
		}
	}
	return l
}

// among reports whether a variable is one of those at some places of a list.
func among(l []api.Term, at []int, x *api.Term) bool {
	for _, i := range at {
		if compare(&l[i], x) == 0 {
			return true
		}
	}
	return false
}

// variable names a Free or a Var.
type variable struct {
	op    int
	name  string
	index int
}

// nameOf returns the name of a variable's node.
func nameOf(t *api.Term) variable { return variable{t.Op, t.Name, t.Num} }
