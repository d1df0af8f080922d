package checker

import (
	"slices"

	"triforium/api"
)

// variable names a variable: of types (by the kind of types), or of terms (by the negative of the kind of terms).
type variable struct {
	kind  int
	name  string
	index int
}

// variables has, of each type variable, a node that is this variable, and of each other variable its type.
type variables map[variable]*api.Type

// add wants a variable to be the same wherever it stands.
func (v variables) add(x variable, t *api.Type) {
	if old, ok := v[x]; ok {
		want(old == t || sameType(old, t))
		return
	}
	v[x] = t
}

// addTypeNode adds a node of a type, if it is a variable.
func (v variables) addTypeNode(t *api.Type) {
	if t.Op == api.TFree || t.Op == api.TVar {
		v.add(variable{t.Op, t.Name, t.Index}, t)
	}
}

// addType adds the variables of a type.
func (v variables) addType(t *api.Type) {
	v.addTypeNode(t)
	for i := range t.Args {
		v.addType(&t.Args[i])
	}
}

// addTerm adds the variables of a term.
func (v variables) addTerm(t *api.Term) {
	v.addType(&t.Type)
	if t.Op == api.Free || t.Op == api.Var {
		v.add(variable{-t.Op, t.Name, t.Num}, &t.Type)
	}
	for i := range t.Kids {
		v.addTerm(&t.Kids[i])
	}
}

// freeOf returns the name of a fixed variable.
func freeOf(name string) variable { return variable{-api.Free, name, 0} }

// sizeOf returns the number of nodes of a term, and of those within each other, unless there are too many.
func sizeOf(t *api.Term) (nodes, depth int) {
	var count func(t *api.Term, at int)
	count = func(t *api.Term, at int) {
		nodes, depth = nodes+1, max(depth, at)
		want(nodes <= api.MaxTerm && at <= api.MaxDepth)
		for i := range t.Kids {
			count(&t.Kids[i], at+1)
		}
	}
	count(t, 1)
	return nodes, depth
}

// rightTerm wants a term to be right, and returns its type.
func (w *world) rightTerm(t *api.Term) api.Type {
	sizeOf(t)
	typ := w.typeOf(t, nil)
	variables{}.addTerm(t)
	return typ
}

// rightProp wants a term to be a right proposition.
func (w *world) rightProp(t *api.Term) {
	typ := w.rightTerm(t)
	want(isProp(&typ))
}

// isProp reports whether a type is that of propositions.
func isProp(t *api.Type) bool { return t.Op == api.TCon && t.Name == "prop" }

// function returns the type of functions.
func function(a, b api.Type) api.Type {
	return api.Type{Op: api.TCon, Name: "fun", Args: []api.Type{a, b}}
}

// typeOf wants the nodes of a term to be right, with the types of the abstractions around (the innermost one last), and returns its type.
func (w *world) typeOf(t *api.Term, around []*api.Type) api.Type {
	kids, typed := 0, true
	switch t.Op {
	case api.Const, api.Free:
		want(isName(t.Name) && t.Num == 0)
	case api.Var:
		want(isName(t.Name) && t.Num >= 0 && t.Num <= maxIndex)
	case api.Abs:
		want((t.Name == "" || isName(t.Name)) && t.Num == 0)
		kids = 1
	case api.Bound:
		want(t.Name == "" && t.Num >= 0 && t.Num < len(around))
		typed = false
	case api.App:
		want(t.Name == "" && t.Num == 0)
		kids, typed = 2, false
	default:
		wrong()
	}
	want(len(t.Kids) == kids)
	if typed {
		w.rightType(&t.Type)
	} else {
		want(sameType(&t.Type, &api.Type{}))
	}
	switch t.Op {
	case api.Const:
		general, ok := w.consts[t.Name]
		want(ok && w.isInstance(&t.Type, general, map[string]*api.Type{}))
	case api.Bound:
		return *around[len(around)-1-t.Num]
	case api.Abs:
		return function(t.Type, w.typeOf(&t.Kids[0], append(around, &t.Type)))
	case api.App:
		f, a := w.typeOf(&t.Kids[0], around), w.typeOf(&t.Kids[1], around)
		want(f.Op == api.TCon && f.Name == "fun" && sameType(&f.Args[0], &a))
		return f.Args[1]
	}
	return t.Type
}

// change rebuilds a term, with a number of abstractions around, from what a function puts in the place of nodes (nil: the node with its Kids changed). It counts nodes down, and leaves below 0.
type change struct {
	put  func(t *api.Term, around int) *api.Term
	typ  func(t *api.Type) api.Type // nil: types stay
	left int
}

func (c *change) term(t *api.Term, around int) api.Term {
	if other := c.put(t, around); other != nil {
		return *other
	}
	c.take(1)
	r := *t
	if c.typ != nil && t.Type.Op != 0 {
		r.Type = c.typ(&t.Type)
	}
	if t.Op == api.Abs {
		around++
	}
	r.Kids = slices.Clone(t.Kids)
	for i := range r.Kids {
		r.Kids[i] = c.term(&t.Kids[i], around)
	}
	return r
}

// take counts nodes.
func (c *change) take(nodes int) {
	c.left -= nodes
	want(c.left >= 0)
}

// replaced returns a body with a term without loose bound variables for the variable of an abstraction around it.
// The body has no other ones: it is that of an abstraction with nothing around.
func replaced(body, a *api.Term) api.Term {
	nodes, _ := sizeOf(a)
	c := change{left: api.MaxTerm}
	c.put = func(t *api.Term, around int) *api.Term {
		if t.Op != api.Bound || t.Num != around {
			return nil
		}
		c.take(nodes)
		return a
	}
	return c.term(body, 0)
}

// abstracted returns an abstraction over a fixed variable of a term without loose bound variables.
func abstracted(x, t *api.Term) api.Term {
	c := change{left: api.MaxTerm}
	c.put = func(t *api.Term, around int) *api.Term {
		if t.Op != api.Free || !sameTerm(t, x) {
			return nil
		}
		c.take(1)
		return &api.Term{Op: api.Bound, Num: around}
	}
	return api.Term{Op: api.Abs, Name: x.Name, Type: x.Type, Kids: []api.Term{c.term(t, 0)}}
}

// hasBound reports whether a term has the variable of an abstraction around it.
func hasBound(t *api.Term, variable int) bool {
	switch t.Op {
	case api.Bound:
		return t.Num == variable
	case api.Abs:
		return hasBound(&t.Kids[0], variable+1)
	case api.App:
		return hasBound(&t.Kids[0], variable) || hasBound(&t.Kids[1], variable)
	}
	return false
}
