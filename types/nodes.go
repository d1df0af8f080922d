package types

import (
	"iter"
	"math"
	"slices"

	"triforium/api"
)

// unlimited is the limit of a meter that counts all nodes.
const unlimited = math.MaxInt

// Nodes yields the nodes of a type, each one ahead of its Args.
func Nodes(t *api.Type) iter.Seq[*api.Type] {
	return func(yield func(*api.Type) bool) { walk(t, yield) }
}

// walk yields the nodes of a type until one is refused.
func walk(t *api.Type, yield func(*api.Type) bool) bool {
	if !yield(t) {
		return false
	}
	for i := range t.Args {
		if !walk(&t.Args[i], yield) {
			return false
		}
	}
	return true
}

// meter counts nodes and their depth, and gives up above a limit, since shared memory lets a small value have very many nodes.
type meter struct{ nodes, depth, most int }

// add counts a type whose root has a depth; false above the limit.
func (m *meter) add(t *api.Type, depth int) bool {
	if !m.node(depth) {
		return false
	}
	for i := range t.Args {
		if !m.add(&t.Args[i], depth+1) {
			return false
		}
	}
	return true
}

// node counts a node at a depth; false above the limit.
func (m *meter) node(depth int) bool {
	m.nodes++
	m.depth = max(m.depth, depth)
	return m.nodes <= m.most
}

// fault returns the error of the size that was counted.
func (m *meter) fault() api.Errno {
	switch {
	case m.nodes > api.MaxType:
		return api.ErrCount
	case m.depth > api.MaxDepth:
		return api.ErrDepth
	}
	return api.OK
}

// clone returns a type in new memory.
func clone(t api.Type) api.Type {
	t.Sort = slices.Clone(t.Sort)
	if len(t.Args) == 0 {
		t.Args = nil
		return t
	}
	args := make([]api.Type, len(t.Args))
	for i := range t.Args {
		args[i] = clone(t.Args[i])
	}
	t.Args = args
	return t
}

// rebuild returns a type in new memory, in which what a change says stands for each TVar: a node, whose Args follow if it is not the whole.
func rebuild(t *api.Type, change func(*api.Type) (api.Type, bool)) api.Type {
	r := *t
	if t.Op == api.TVar {
		n, whole := change(t)
		if whole {
			return clone(n)
		}
		r = n
	}
	r.Sort = slices.Clone(r.Sort)
	if len(t.Args) == 0 {
		r.Args = nil
		return r
	}
	r.Args = make([]api.Type, len(t.Args))
	for i := range t.Args {
		r.Args[i] = rebuild(&t.Args[i], change)
	}
	return r
}

// variable names a type variable.
type variable struct {
	op    int
	name  string
	index int
}

// nameOf returns the name of a variable's node.
func nameOf(t *api.Type) variable { return variable{t.Op, t.Name, t.Index} }

// isVariable reports whether a node is a variable.
func isVariable(t *api.Type) bool { return t.Op == api.TFree || t.Op == api.TVar }

// collector collects variables, each once. Those of one name may have several sorts.
type collector struct {
	list []api.Type
	at   map[variable][]int
}

// add adds the variables of a type.
func (c *collector) add(t *api.Type) {
	for n := range Nodes(t) {
		if isVariable(n) && !c.has(n) {
			v := nameOf(n)
			c.at[v] = append(c.at[v], len(c.list))
			c.list = append(c.list, api.Type{Op: n.Op, Name: n.Name, Index: n.Index, Sort: slices.Clone(n.Sort)})
		}
	}
}

// has reports whether a variable is there.
func (c *collector) has(n *api.Type) bool {
	return slices.ContainsFunc(c.at[nameOf(n)], func(i int) bool { return slices.Equal(c.list[i].Sort, n.Sort) })
}

// Sorts keeps the sort of each variable of the types that were added.
type Sorts map[variable][]string

// Add adds the variables of a type; false, if one has two sorts.
func (s Sorts) Add(t *api.Type) bool {
	for n := range Nodes(t) {
		if !isVariable(n) {
			continue
		}
		old, ok := s[nameOf(n)]
		if ok && !slices.Equal(old, n.Sort) {
			return false
		}
		if !ok {
			s[nameOf(n)] = slices.Clone(n.Sort)
		}
	}
	return true
}

// Has reports whether a variable has its sort here.
func (s Sorts) Has(v *api.Type) bool {
	old, ok := s[nameOf(v)]
	return ok && slices.Equal(old, v.Sort)
}
