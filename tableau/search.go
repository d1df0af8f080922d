package tableau

import (
	"iter"
	"slices"

	"triforium/api"
	"triforium/term"
	"triforium/types"
)

// maxWork is how many nodes are tried for one answer by variables and constants, maxMore how many by all terms, or with more than a few instances on a branch.
const (
	maxWork   = 40000
	maxMore   = 4000
	fewGammas = 2
)

// exhausted is the panic with which a search ends that has tried too much.
type exhausted struct{}

// search looks for a closed tableau: with as few instances as possible, by variables and constants first, and then by all terms of the branch.
func search(l []api.Term, gammas, nodes int) (t Tree, ok bool) {
	for _, any := range [2]bool{false, true} {
		work := maxWork
		for g := range gammas + 1 {
			if any || g > fewGammas {
				work = maxMore
			}
			if t, ok := searchWith(l, g, any, &work); ok && Size(t) <= nodes {
				return t, true
			}
		}
	}
	return Tree{}, false
}

// searchWith looks for a closed tableau with at most so many instances on a branch; work is what may still be tried.
func searchWith(l []api.Term, gammas int, any bool, work *int) (t Tree, ok bool) {
	defer func() {
		if x := recover(); x != nil {
			if _, is := x.(exhausted); !is {
				panic(x)
			}
			t, ok = Tree{}, false
		}
	}()
	s := searcher{any, work}
	b := branch{gammas: gammas}
	for _, f := range l {
		b = b.with(f)
	}
	c, ok := s.close(b, 0)
	return c.tree, ok
}

// searcher looks for closed tableaux.
type searcher struct {
	any  bool // instances by all terms
	work *int
}

// branch is a branch on which a search goes on.
type branch struct {
	forms  []api.Term
	shapes []shape
	done   uint64 // the indices of formulas from which nothing more can come, but instances
	gammas int    // instances that may still be made
}

// closed is a closed tableau for a branch, with the formulas of this that it uses.
type closed struct {
	tree Tree
	used uint64
}

// has reports whether a formula stands on the branch.
func (b branch) has(t api.Term) bool {
	return slices.ContainsFunc(b.forms, func(f api.Term) bool { return term.Equal(f, t) })
}

// with returns the branch with a further formula.
func (b branch) with(t api.Term) branch {
	if b.has(t) {
		b.done |= 1 << len(b.forms)
	}
	b.forms = append(slices.Clip(b.forms), t)
	b.shapes = append(slices.Clip(b.shapes), shapeOf(t))
	return b
}

// close looks for a closed tableau for a branch, whose formulas from an index on are new.
func (s searcher) close(b branch, from int) (closed, bool) {
	if *s.work == 0 {
		panic(exhausted{})
	}
	*s.work--
	for i := from; i < len(b.forms); i++ {
		for k := range i + 1 {
			if closes(b.forms, k, i) {
				return closed{Tree{Kind: Close, At: k, Other: i}, 1<<k | 1<<i}, true
			}
		}
	}
	for _, k := range [...]kind{Twice, Alpha, Delta, Beta} {
		for i, x := range b.shapes {
			if x.kind == k && b.done>>i&1 == 0 {
				return s.expand(b, i)
			}
		}
	}
	if b.gammas == 0 {
		return closed{}, false
	}
	b.gammas--
	for t, part := range s.instances(b) {
		if c, ok := s.put(b, t, []api.Term{part}); ok {
			return c, true
		}
	}
	return closed{}, false
}

// expand goes on with the formula with an index, from which formulas come without a choice.
func (s searcher) expand(b branch, at int) (closed, bool) {
	b.done |= 1 << at
	x := b.shapes[at]
	t := Tree{Kind: int(x.kind), At: at}
	if x.kind == Beta {
		return s.fork(b, t, x.parts)
	}
	parts := x.parts
	if x.kind == Delta {
		t.Term = api.Term{Op: api.Free, Name: term.Variant("x", names(b.forms)), Type: parts[0].Type}
		p, ok := instance(parts[0], t.Term)
		if !ok {
			return s.close(b, len(b.forms))
		}
		parts = []api.Term{p}
	}
	if !fits(b.forms, parts) || !slices.ContainsFunc(parts, func(p api.Term) bool { return !b.has(p) }) {
		return s.close(b, len(b.forms))
	}
	return s.put(b, t, parts)
}

// put goes on with a branch on which a node puts formulas; the node is left out, if they are not used.
func (s searcher) put(b branch, t Tree, parts []api.Term) (closed, bool) {
	n := len(b.forms)
	for _, p := range parts {
		b = b.with(p)
	}
	c, ok := s.close(b, n)
	if !ok {
		return closed{}, false
	}
	return c.above(t, n, len(parts)), true
}

// uses reports whether some of the formulas with indices in a row are used.
func (c closed) uses(from, count int) bool { return c.used>>from&(1<<count-1) != 0 }

// above returns what is closed with a node ahead, which has put so many formulas on the branch from an index on, or without it, if these are not used.
func (c closed) above(t Tree, from, count int) closed {
	if !c.uses(from, count) {
		return closed{c.tree.moved(from+count, count), c.used}
	}
	t.Kids = []Tree{c.tree}
	return closed{t, c.used&(1<<from-1) | 1<<t.At}
}

// moved returns a tree whose indices from one on are less by a number.
func (t Tree) moved(from, by int) Tree {
	if t.At >= from {
		t.At -= by
	}
	if t.Other >= from {
		t.Other -= by
	}
	var l []Tree
	for _, k := range t.Kids {
		l = append(l, k.moved(from, by))
	}
	t.Kids = l
	return t
}

// fork goes on with both branches of a formula, of which one is enough, if it does not use what is put on it.
func (s searcher) fork(b branch, t Tree, parts []api.Term) (closed, bool) {
	n := len(b.forms)
	if !fits(b.forms, parts[:1]) || !fits(b.forms, parts[1:]) || b.has(parts[0]) || b.has(parts[1]) {
		return s.close(b, n)
	}
	used := uint64(1) << t.At
	for _, p := range parts {
		c, ok := s.close(b.with(p), n)
		if !ok {
			return closed{}, false
		}
		if !c.uses(n, 1) {
			return closed{c.tree.moved(n+1, 1), c.used}, true
		}
		t.Kids = append(t.Kids, c.tree)
		used |= c.used & (1<<n - 1)
	}
	return closed{t, used}, true
}

// instances yields nodes for the instances of formulas that hold for all, with these, if they are not yet on the branch.
func (s searcher) instances(b branch) iter.Seq2[Tree, api.Term] {
	return func(yield func(Tree, api.Term) bool) {
	formulas:
		for i, x := range b.shapes {
			if x.kind != Gamma || b.done>>i&1 != 0 {
				continue formulas
			}
			for by := range s.terms(b, x.parts[0].Type) {
				p, ok := instance(x.parts[0], by)
				if !ok || b.has(p) || !fits(b.forms, []api.Term{p}) {
					continue
				}
				if !yield(Tree{Kind: Gamma, At: i, Term: by}, p) {
					return
				}
			}
		}
	}
}

// terms yields the terms of a type on a branch, each once: variables and constants, or all, and a new variable, at least if there are no others.
func (s searcher) terms(b branch, typ api.Type) iter.Seq[api.Term] {
	return func(yield func(api.Term) bool) {
		var seen []api.Term
		for _, f := range b.forms {
			for n := range term.Nodes(&f) {
				u, ok := s.candidate(n)
				if !ok || !types.Equal(u, typ) || slices.ContainsFunc(seen, func(t api.Term) bool { return term.Equal(t, *n) }) {
					continue
				}
				seen = append(seen, *n)
				if !yield(*n) {
					return
				}
			}
		}
		if s.any || len(seen) == 0 {
			yield(api.Term{Op: api.Free, Name: term.Variant("x", names(b.forms)), Type: typ})
		}
	}
}

// candidate returns the type of a part of a formula that may stand for a variable; false for other parts.
func (s searcher) candidate(n *api.Term) (api.Type, bool) {
	if n.Op == api.Free || n.Op == api.Const || n.Op == api.Var {
		return n.Type, true
	}
	if !s.any || !term.Closed(*n) {
		return api.Type{}, false
	}
	u, e := term.TypeOf(*n)
	return u, e == api.OK
}
