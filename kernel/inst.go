package kernel

import (
	"slices"

	"triforium/api"
	"triforium/term"
	"triforium/types"
)

// Limits of what Instantiate and Generalize take.
const (
	maxBinds = 100
	maxIndex = 1000000
)

// size is a number of nodes, and of those within each other. It is counted ahead of what would have so many nodes, since that could be far too much.
type size struct{ nodes, depth int }

// add counts nodes at a depth, and leaves above the limits of a term.
func (s *size) add(more size, depth int) {
	s.nodes += more.nodes
	s.depth = max(s.depth, depth-1+more.depth)
	if s.nodes > api.MaxTerm || s.depth > api.MaxDepth {
		panic(api.ErrLarge)
	}
}

// sizeOf returns the size of a term.
func sizeOf(t *api.Term) size {
	nodes, depth := term.Size(*t)
	return size{nodes, depth}
}

// put returns a body with a term for the variable of an abstraction around it.
func put(body, a *api.Term) api.Term {
	var s size
	s.addPut(body, 0, 1, sizeOf(a))
	return term.Put(*body, *a)
}

// addPut counts a body, with so many abstractions around and at a depth, in which a term of a size stands for the variable.
func (s *size) addPut(t *api.Term, around, depth int, a size) {
	if t.Op == api.Bound && t.Num == around {
		s.add(a, depth)
		return
	}
	s.add(size{1, 1}, depth)
	if t.Op == api.Abs {
		around++
	}
	for i := range t.Kids {
		s.addPut(&t.Kids[i], around, depth+1, a)
	}
}

// instantiate is Instantiate: what is wrong with a bind is said bind by bind.
func (c *call) instantiate() *sequent {
	i, b := &c.Inst, c.from[0]
	if len(i.Types) > maxBinds || len(i.Terms) > maxBinds {
		panic(api.ErrCount)
	}
	x := newInstance(i)
	if len(x.types) < len(i.Types) || len(x.terms) < len(i.Terms) {
		panic(api.ErrDuplicate)
	}
	for k := range i.Types {
		c.wantType(&i.Types[k])
	}
	for k := range i.Terms {
		c.wantTerm(&x, &i.Terms[k])
	}
	x.measure()
	prop := x.of(b.prop)
	var hyps []*statement
	for _, h := range b.hyps {
		hyps = append(hyps, x.of(h))
	}
	slices.SortStableFunc(hyps, compareStatements)
	hyps = slices.CompactFunc(hyps, func(x, y *statement) bool { return compareStatements(x, y) == 0 })
	return c.sequent(hyps, b.oracles, prop)
}

// wantType looks whether a type is right, and fits to the type variable for which it is to stand.
func (c *call) wantType(b *api.TypeBind) {
	a := c.in.signature.Algebra()
	if e := types.CheckIn(a, b.To); e != api.OK {
		panic(e)
	}
	s, ok := c.from[0].vars.sorts[variable{ofTypes: true, name: b.Name, index: b.Index}]
	if ok && !types.HasSortIn(a, &b.To, s) {
		panic(api.ErrSort)
	}
}

// wantTerm looks whether a term is right, and fits to the variable for which it is to stand.
func (c *call) wantTerm(x *instance, b *api.TermBind) {
	typ, e := c.in.signature.Check(b.To)
	if e != api.OK {
		panic(e)
	}
	t, ok := c.from[0].vars.types[variable{name: b.Name, index: b.Index}]
	if ok && !x.makes(t, &typ) {
		panic(api.ErrType)
	}
}

// instance has what an instantiation puts in the place of type variables and variables.
type instance struct {
	inst             *api.Inst
	types            map[variable]*api.Type
	terms            map[variable]*api.Term
	ofTypes, ofTerms map[variable]size
}

// newInstance returns the instance of binds; of several for one variable only one is there.
func newInstance(i *api.Inst) instance {
	x := instance{inst: i, types: map[variable]*api.Type{}, terms: map[variable]*api.Term{}}
	for k := range i.Types {
		b := &i.Types[k]
		x.types[variable{ofTypes: true, name: b.Name, index: b.Index}] = &b.To
	}
	for k := range i.Terms {
		b := &i.Terms[k]
		x.terms[variable{name: b.Name, index: b.Index}] = &b.To
	}
	return x
}

// measure counts the nodes of what is put, which has to be right.
func (x *instance) measure() {
	x.ofTypes, x.ofTerms = map[variable]size{}, map[variable]size{}
	for v, t := range x.types {
		nodes, depth := types.Size(*t)
		x.ofTypes[v] = size{nodes, depth}
	}
	for v, t := range x.terms {
		x.ofTerms[v] = sizeOf(t)
	}
}

// typeVariable returns the name of a node that is a schematic type variable.
func typeVariable(t *api.Type) variable {
	return variable{ofTypes: true, name: t.Name, index: t.Index}
}

// makes reports whether a type becomes another one. It is not built for this, since it could be far too large.
func (x *instance) makes(t, other *api.Type) bool {
	if t.Op == api.TVar {
		if to, ok := x.types[typeVariable(t)]; ok {
			return types.Equal(*to, *other)
		}
	}
	if t.Op != other.Op || t.Name != other.Name || t.Index != other.Index || !slices.Equal(t.Sort, other.Sort) || len(t.Args) != len(other.Args) {
		return false
	}
	for i := range t.Args {
		if !x.makes(&t.Args[i], &other.Args[i]) {
			return false
		}
	}
	return true
}

// of returns an instance of a statement, or leaves if it would be too large.
func (x *instance) of(s *statement) *statement {
	if !x.changes(s) {
		return s
	}
	var n size
	x.addTerm(&n, &s.term, 1)
	return stated(term.Apply(*x.inst, s.term))
}

// changes reports whether a statement has a variable in whose place something is put.
func (x *instance) changes(s *statement) bool {
	for v := range x.types {
		if _, ok := s.vars.sorts[v]; ok {
			return true
		}
	}
	for v := range x.terms {
		if _, ok := s.vars.types[v]; ok {
			return true
		}
	}
	return false
}

// addTerm counts what a term at a depth becomes.
func (x *instance) addTerm(n *size, t *api.Term, depth int) {
	if t.Op == api.Var {
		if of, ok := x.ofTerms[variable{name: t.Name, index: t.Num}]; ok {
			n.add(of, depth)
			return
		}
	}
	n.add(size{1, 1}, depth)
	if len(x.types) > 0 && t.Type.Op != 0 {
		var m size
		x.addType(&m, &t.Type, 1)
	}
	for i := range t.Kids {
		x.addTerm(n, &t.Kids[i], depth+1)
	}
}

// addType counts what a type at a depth becomes, and leaves above the limits of a type.
func (x *instance) addType(n *size, t *api.Type, depth int) {
	more := size{1, 1}
	if t.Op == api.TVar {
		if of, ok := x.ofTypes[typeVariable(t)]; ok {
			more = of
		}
	}
	n.nodes += more.nodes
	n.depth = max(n.depth, depth-1+more.depth)
	if n.nodes > api.MaxType || n.depth > api.MaxDepth {
		panic(api.ErrLarge)
	}
	for i := range t.Args {
		x.addType(n, &t.Args[i], depth+1)
	}
}

// generalize is Generalize. No hypothesis is changed: none may have one of the variables.
func (c *call) generalize() *sequent {
	b := c.from[0]
	if c.Num < 0 || c.Num > maxIndex {
		panic(api.ErrRange)
	}
	if len(c.TypeNames) > maxBinds || len(c.TermNames) > maxBinds {
		panic(api.ErrCount)
	}
	g := generalizer{map[string]bool{}, map[string]bool{}, c.Num}
	for _, n := range c.TypeNames {
		g.types[n] = true
	}
	for _, n := range c.TermNames {
		g.terms[n] = true
	}
	if len(g.types) < len(c.TypeNames) || len(g.terms) < len(c.TermNames) {
		panic(api.ErrDuplicate)
	}
	for _, n := range c.TypeNames {
		c.wantGeneral(variable{ofTypes: true, name: n})
	}
	for _, n := range c.TermNames {
		c.wantGeneral(variable{name: n})
	}
	return c.sequent(b.hyps, b.oracles, stated(g.term(&b.prop.term)))
}

// wantGeneral looks whether no hypothesis has the fixed variable with a name, and nothing at all the schematic one with the index.
func (c *call) wantGeneral(v variable) {
	schematic, fixed := v, v
	schematic.index, fixed.fixed = c.Num, true
	if c.from[0].vars.has(schematic) {
		fail()
	}
	for _, h := range c.from[0].hyps {
		if h.vars.has(fixed) {
			fail()
		}
	}
}

// generalizer makes fixed variables with some names schematic ones with an index.
type generalizer struct {
	types, terms map[string]bool
	index        int
}

// term returns what becomes of a term, with which it shares memory.
func (g generalizer) term(t *api.Term) api.Term {
	r := *t
	if r.Op == api.Free && g.terms[r.Name] {
		r.Op, r.Num = api.Var, g.index
	}
	if len(g.types) > 0 {
		r.Type = g.typ(&t.Type)
	}
	r.Kids = make([]api.Term, len(t.Kids))
	for i := range t.Kids {
		r.Kids[i] = g.term(&t.Kids[i])
	}
	return r
}

// typ returns what becomes of a type, with which it shares memory.
func (g generalizer) typ(t *api.Type) api.Type {
	r := *t
	if r.Op == api.TFree && g.types[r.Name] {
		r.Op, r.Index = api.TVar, g.index
	}
	r.Args = make([]api.Type, len(t.Args))
	for i := range t.Args {
		r.Args[i] = g.typ(&t.Args[i])
	}
	return r
}
