package kernel

import (
	"slices"

	"triforium/api"
	"triforium/term"
	"triforium/theory"
	"triforium/types"
)

// sequent is what a theorem is. It is never changed; sequents share memory with each other.
type sequent struct {
	in      *world
	hyps    []*statement // in order, each once
	prop    *statement
	oracles []string // in order, each once
	proof   *node
	vars    variables // of the hypotheses and of the proposition
}

// world is a theory without an error, and what it says of terms.
type world struct {
	theory    api.Theory
	signature term.Signature
}

// openWorld returns the world of a theory, or leaves with its error.
func openWorld(thy api.Theory) *world {
	s, e := theory.Open(thy)
	if e != api.OK {
		panic(e)
	}
	return &world{theory.Clone(thy), s}
}

// opening returns what opens the world of a theory, when it is wanted.
func opening(thy api.Theory) func() *world {
	return func() *world { return openWorld(thy) }
}

// within reports whether the theory of a world is within that of another one.
func (w *world) within(o *world) bool {
	return w == o || theory.Within(w.theory, o.theory)
}

// common returns the world of what is made of two theorems.
func common(first, second *world) *world {
	switch {
	case first.within(second):
		return second
	case second.within(first):
		return first
	}
	panic(api.ErrTheory)
}

// node is a node of a proof; theorems share those of their premises.
type node struct {
	fields       api.Proof // without Kids
	kids         []*node
	nodes, depth int
}

// maxNest is how many nodes of a proof may be within each other.
const maxNest = 30000

// newNode returns a node behind others, which counts them.
func newNode(fields api.Proof, kids []*node) *node {
	n := &node{fields: fields, kids: kids, nodes: 1, depth: 1}
	for _, k := range kids {
		n.nodes += k.nodes
		n.depth = max(n.depth, k.depth+1)
	}
	return n
}

// tooLarge reports whether a proof has too many nodes, or too many within each other.
func (n *node) tooLarge() bool { return n.nodes > api.MaxProof || n.depth > maxNest }

// written returns the proof in new memory.
func (n *node) written() api.Proof {
	p := n.fields
	p.Term = copied(p.Term)
	p.Inst = copiedInst(p.Inst)
	p.TypeNames, p.TermNames = slices.Clone(p.TypeNames), slices.Clone(p.TermNames)
	for _, k := range n.kids {
		p.Kids = append(p.Kids, k.written())
	}
	return p
}

// copiedInst returns an instantiation in new memory.
func copiedInst(i api.Inst) api.Inst {
	var r api.Inst
	for _, b := range i.Types {
		b.To = types.Apply(nil, b.To)
		r.Types = append(r.Types, b)
	}
	for _, b := range i.Terms {
		b.To = copied(b.To)
		r.Terms = append(r.Terms, b)
	}
	return r
}

// merged returns the elements of two lists that are in order, each once, in order.
func merged[T any](a, b []T, compare func(x, y T) int) []T {
	if len(a) == 0 {
		return b
	}
	if len(b) == 0 {
		return a
	}
	r := make([]T, 0, len(a)+len(b))
	for len(a) > 0 && len(b) > 0 {
		switch c := compare(a[0], b[0]); {
		case c < 0:
			r, a = append(r, a[0]), a[1:]
		case c > 0:
			r, b = append(r, b[0]), b[1:]
		default:
			r, a, b = append(r, a[0]), a[1:], b[1:]
		}
	}
	r = append(r, a...)
	return append(r, b...)
}
