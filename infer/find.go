package infer

import (
	"iter"
	"slices"
	"strconv"

	"triforium/api"
	"triforium/types"
)

// name is that of a Free, or of a Var.
type name struct {
	op    int
	name  string
	index int
}

// finder finds the types of raw terms. Its methods leave with an error by a panic.
type finder struct {
	*world
	unifier
	names map[name]*api.Type // the types of variables that have none of their own
	found []*api.Type        // those of nodes, in order, a node ahead of its Kids
}

// find returns raw terms with types, if the raw terms and all given types are right.
func (w *world) find(known []Known, raw []api.Term, want []api.Type) (l []api.Term, e api.Errno) {
	defer func() {
		if x := recover(); x != nil {
			l, e = nil, failure(x)
		}
	}()
	f := finder{world: w, unifier: unifier{algebra: w.signature.Algebra()}, names: map[name]*api.Type{}}
	for i := range known {
		n := name{op: api.Free, name: known[i].Name}
		if f.names[n] == nil {
			f.names[n] = &known[i].Type
		}
	}
	for i := range raw {
		t := f.typeOf(&raw[i])
		if !isZero(&want[i]) {
			f.unify(t, &want[i])
		}
	}
	texts := f.left(taken(given(known, raw, want)))
	for i := range raw {
		l = append(l, f.whole(&raw[i], texts))
	}
	return l, api.OK
}

// failure returns the error with which a function was left.
func failure(x any) api.Errno {
	if e, ok := x.(api.Errno); ok {
		return e
	}
	return api.ErrType
}

// typeOf finds the types of a raw term, and returns its own one.
func (f *finder) typeOf(t *api.Term) *api.Type {
	var around []*api.Type // those of the variables of abstractions, the innermost is the last
	var walk func(t *api.Term) *api.Type
	walk = func(t *api.Term) *api.Type {
		switch t.Op {
		case api.Const:
			return f.note(f.constant(t))
		case api.Free, api.Var:
			return f.note(f.variable(t))
		case api.Bound:
			return around[len(around)-1-t.Num]
		case api.Abs:
			x := f.note(f.given(&t.Type))
			around = append(around, x)
			body := walk(&t.Kids[0])
			around = around[:len(around)-1]
			return function(x, body)
		case api.App:
			fun := walk(&t.Kids[0])
			arg := walk(&t.Kids[1])
			result := f.fresh(nil)
			f.unify(fun, function(arg, result))
			return result
		}
		kid := walk(&t.Kids[0])
		f.unify(kid, &t.Type)
		return kid
	}
	return walk(t)
}

// note keeps the type of a node.
func (f *finder) note(t *api.Type) *api.Type {
	f.found = append(f.found, t)
	return t
}

// function returns the type of functions.
func function(a, b *api.Type) *api.Type {
	return &api.Type{Op: api.TCon, Name: "fun", Args: []api.Type{*a, *b}}
}

// given returns a type that is given, or a new variable.
func (f *finder) given(t *api.Type) *api.Type {
	if isZero(t) {
		return f.fresh(nil)
	}
	return t
}

// constant returns the type of a Const: an instance of the declared one.
func (f *finder) constant(t *api.Term) *api.Type {
	declared, ok := f.declared[t.Name]
	if !ok {
		panic(ErrUnknown)
	}
	instance := f.instance(declared, map[string]*api.Type{})
	if isZero(&t.Type) {
		return &instance
	}
	f.unify(&t.Type, &instance)
	return &t.Type
}

// instance returns a declared type with new variables, those of some names already.
func (f *finder) instance(t *api.Type, variables map[string]*api.Type) api.Type {
	if t.Op == api.TVar {
		if variables[t.Name] == nil {
			variables[t.Name] = f.fresh(t.Sort)
		}
		return *variables[t.Name]
	}
	r := *t
	r.Args = make([]api.Type, len(t.Args))
	for i := range t.Args {
		r.Args[i] = f.instance(&t.Args[i], variables)
	}
	return r
}

// variable returns the type of a Free or a Var: its own one, or the one of its name.
func (f *finder) variable(t *api.Term) *api.Type {
	if !isZero(&t.Type) {
		return &t.Type
	}
	n := name{t.Op, t.Name, t.Num}
	if f.names[n] == nil {
		f.names[n] = f.fresh(nil)
	}
	return f.names[n]
}

// taken returns the names of the TFrees of types.
func taken(l iter.Seq[*api.Type]) map[string]bool {
	r := map[string]bool{}
	for t := range l {
		for n := range types.Nodes(t) {
			if n.Op == api.TFree {
				r[n.Name] = true
			}
		}
	}
	return r
}

// letters yields a, b, .. z, a1, .. z1, a2 and so on.
func letters(yield func(string) bool) {
	for round := 0; ; round++ {
		for b := byte('a'); b <= 'z'; b++ {
			s := string(rune(b))
			if round > 0 {
				s += strconv.Itoa(round)
			}
			if !yield(s) {
				return
			}
		}
	}
}

// left returns the TFrees that the variables become that are left, by their numbers: in the order in which they stand in the types that were found, with names that are not taken.
func (f *finder) left(taken map[string]bool) map[int]api.Type {
	order := f.order()
	r := map[int]api.Type{}
	for s := range letters {
		if len(r) == len(order) {
			break
		}
		if !taken[s] {
			i := order[len(r)]
			r[i] = api.Type{Op: api.TFree, Name: s, Sort: f.variables[i].sort}
		}
	}
	return r
}

// order returns the variables that stand for nothing, as they stand in the types that were found.
func (f *finder) order() []int {
	var l []int
	seen := map[int]bool{}
	var walk func(t *api.Type)
	walk = func(t *api.Type) {
		for t.Op == flexible {
			if seen[t.Index] {
				return
			}
			seen[t.Index] = true
			to := f.variables[t.Index].to
			if to == nil {
				l = append(l, t.Index)
				return
			}
			t = to
		}
		for i := range t.Args {
			walk(&t.Args[i])
		}
	}
	for _, t := range f.found {
		walk(t)
	}
	return l
}

// whole returns a raw term with the types that were found, and without constraints.
func (f *finder) whole(t *api.Term, left map[int]api.Type) api.Term {
	if t.Op == Constraint {
		return f.whole(&t.Kids[0], left)
	}
	r := *t
	if fieldsOf(t.Op).open {
		nodes := 0
		r.Type = f.result(f.found[0], left, &nodes)
		f.found = f.found[1:]
	}
	r.Kids = nil
	for i := range t.Kids {
		r.Kids = append(r.Kids, f.whole(&t.Kids[i], left))
	}
	return r
}

// result returns a type as it was found, in new memory. One that is too large is cut off where it is so: the check of the term finds its error.
func (f *finder) result(t *api.Type, left map[int]api.Type, nodes *int) api.Type {
	t = f.head(t)
	*nodes++
	r := *t
	if t.Op == flexible {
		r = left[t.Index]
	}
	r.Sort = slices.Clone(r.Sort)
	r.Args = nil
	for i := range t.Args {
		if *nodes > api.MaxType {
			break
		}
		r.Args = append(r.Args, f.result(&t.Args[i], left, nodes))
	}
	return r
}
