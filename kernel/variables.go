package kernel

import (
	"slices"

	"triforium/api"
	"triforium/term"
	"triforium/types"
)

// variable names a variable of terms, or of types, that is fixed or schematic.
type variable struct {
	ofTypes, fixed bool
	name           string
	index          int
}

// variables has the sort of each type variable, and the type of each variable, of some terms. Those of statements and sequents are not changed any more.
type variables struct {
	sorts       map[variable][]string
	types       map[variable]*api.Type
	sortsDiffer bool // a type variable has two sorts
	typesDiffer bool // a variable has two types
}

// addSort adds a type variable.
func (v *variables) addSort(x variable, s []string) {
	if old, ok := v.sorts[x]; ok {
		v.sortsDiffer = v.sortsDiffer || !slices.Equal(old, s)
		return
	}
	if v.sorts == nil {
		v.sorts = map[variable][]string{}
	}
	v.sorts[x] = s
}

// addType adds a variable.
func (v *variables) addType(x variable, t *api.Type) {
	if old, ok := v.types[x]; ok {
		v.typesDiffer = v.typesDiffer || !types.Equal(*old, *t)
		return
	}
	if v.types == nil {
		v.types = map[variable]*api.Type{}
	}
	v.types[x] = t
}

// has reports whether there is a variable.
func (v variables) has(x variable) bool {
	if x.ofTypes {
		_, ok := v.sorts[x]
		return ok
	}
	_, ok := v.types[x]
	return ok
}

// add adds the variables of another set, which stays as it is.
func (v *variables) add(o variables) {
	for x, s := range o.sorts {
		v.addSort(x, s)
	}
	for x, t := range o.types {
		v.addType(x, t)
	}
	v.sortsDiffer = v.sortsDiffer || o.sortsDiffer
	v.typesDiffer = v.typesDiffer || o.typesDiffer
}

// union returns the variables of sets together; it shares memory with the only one that has some.
func union(l ...variables) variables {
	l = slices.DeleteFunc(l, func(v variables) bool { return len(v.sorts) == 0 && len(v.types) == 0 })
	if len(l) == 1 {
		return l[0]
	}
	var r variables
	for _, v := range l {
		r.add(v)
	}
	return r
}

// agree leaves with an error where a variable has two sorts or types.
func (v variables) agree() {
	if v.sortsDiffer {
		panic(api.ErrSort)
	}
	if v.typesDiffer {
		panic(api.ErrType)
	}
}

// statement is a hypothesis or a proposition, and what there is to say of it.
type statement struct {
	term  api.Term
	vars  variables
	large bool // it is larger than a term may be, or one of its types larger than a type
}

// stated returns the statement of a term.
func stated(t api.Term) *statement {
	r := &statement{term: t}
	var s surveyor
	s.term(&r.term, 1)
	r.vars, r.large = s.vars, s.large
	return r
}

// compareStatements orders statements by their terms.
func compareStatements(a, b *statement) int { return term.Compare(a.term, b.term) }

// surveyor looks at all nodes of a term, as long as it is not too large.
type surveyor struct {
	vars  variables
	large bool
	nodes int
}

// term looks at a term at a depth.
func (s *surveyor) term(t *api.Term, depth int) {
	s.nodes++
	s.large = s.large || s.nodes > api.MaxTerm || depth > api.MaxDepth
	if s.large {
		return
	}
	if t.Type.Op != 0 {
		s.typ(&t.Type, 1, 0)
	}
	switch t.Op {
	case api.Free:
		s.vars.addType(variable{fixed: true, name: t.Name}, &t.Type)
	case api.Var:
		s.vars.addType(variable{name: t.Name, index: t.Num}, &t.Type)
	}
	for i := range t.Kids {
		s.term(&t.Kids[i], depth+1)
	}
}

// typ looks at a type at a depth, with a number of nodes ahead of it, and returns that number with its own ones.
func (s *surveyor) typ(t *api.Type, depth, nodes int) int {
	nodes++
	s.large = s.large || nodes > api.MaxType || depth > api.MaxDepth
	if s.large {
		return nodes
	}
	switch t.Op {
	case api.TFree:
		s.vars.addSort(variable{ofTypes: true, fixed: true, name: t.Name}, t.Sort)
	case api.TVar:
		s.vars.addSort(variable{ofTypes: true, name: t.Name, index: t.Index}, t.Sort)
	}
	for i := range t.Args {
		nodes = s.typ(&t.Args[i], depth+1, nodes)
	}
	return nodes
}
