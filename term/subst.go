package term

import (
	"triforium/api"
	"triforium/types"
)

// change says what becomes of a node with a number of abstractions around: a term in its place, if whole is true, otherwise a node, whose Kids follow.
// The result may share memory with the node.
type change func(t *api.Term, around int) (r api.Term, whole bool)

// rebuild changes all nodes of a term, from the outside.
func rebuild(t *api.Term, around int, f change) api.Term {
	r, whole := f(t, around)
	if whole {
		return r
	}
	if t.Op == api.Abs {
		around++
	}
	r.Kids = make([]api.Term, len(t.Kids))
	for i := range t.Kids {
		r.Kids[i] = rebuild(&t.Kids[i], around, f)
	}
	return r
}

// lifter adds a number to loose bound variables.
type lifter struct{ by int }

func (l lifter) change(t *api.Term, around int) (api.Term, bool) {
	r := *t
	if t.Op == api.Bound && t.Num >= around {
		r.Num += l.by
	}
	return r, false
}

// lift is Lift; what it returns shares memory with the term.
func lift(t *api.Term, n int) api.Term {
	if n == 0 {
		return *t
	}
	return rebuild(t, 0, lifter{n}.change)
}

// Lift adds a number to the loose bound variables.
func Lift(t api.Term, n int) api.Term { return clone(lift(&t, n)) }

// Closed reports whether no bound variable is loose.
func Closed(t api.Term) bool { return closed(&t, 0) }

func closed(t *api.Term, around int) bool {
	if t.Op == api.Bound && t.Num >= around {
		return false
	}
	if t.Op == api.Abs {
		around++
	}
	for i := range t.Kids {
		if !closed(&t.Kids[i], around) {
			return false
		}
	}
	return true
}

// binder puts the variable of an abstraction around in the place of a fixed variable.
type binder struct{ free *api.Term }

func (b binder) change(t *api.Term, around int) (api.Term, bool) {
	if t.Op == api.Free && compare(t, b.free) == 0 {
		return api.Term{Op: api.Bound, Num: around}, true
	}
	return lifter{1}.change(t, around)
}

// bind is Bind; what it returns shares memory with the term.
func bind(x, t *api.Term) api.Term { return rebuild(t, 0, binder{x}.change) }

// Bind returns the body of an abstraction over a fixed variable; Put a body with a term for its variable.
func Bind(x, t api.Term) api.Term { return clone(bind(&x, &t)) }

// putter puts a term in the place of the variable of an abstraction around, as long as the result does not have too many nodes.
type putter struct {
	arg   *api.Term
	nodes int // of arg
	left  int // how many nodes the result may still have
}

// put returns a body with a term for its variable, which shares memory with both; it panics above a number of nodes.
func put(body, a *api.Term, most int) api.Term {
	p := putter{arg: a, left: most}
	p.nodes, _ = Size(*a)
	return rebuild(body, 0, p.change)
}

func (p *putter) change(t *api.Term, around int) (api.Term, bool) {
	if t.Op == api.Bound && t.Num == around {
		p.take(p.nodes)
		return lift(p.arg, around), true
	}
	p.take(1)
	r := *t
	if t.Op == api.Bound && t.Num > around {
		r.Num--
	}
	return r, false
}

// take counts nodes of the result.
func (p *putter) take(nodes int) {
	if nodes > p.left {
		panic(api.ErrCount)
	}
	p.left -= nodes
}

// Put returns a body with a term for the variable of an abstraction around it.
func Put(body, a api.Term) api.Term { return clone(put(&body, &a, unlimited)) }

// inst is an instantiation.
type inst struct {
	types []api.TypeBind
	terms map[variable]*api.Term
}

// newInst returns an instantiation of binds, of which the first one for a variable counts.
func newInst(i *api.Inst) inst {
	r := inst{types: i.Types, terms: make(map[variable]*api.Term, len(i.Terms))}
	for k := range i.Terms {
		b := &i.Terms[k]
		v := variable{api.Var, b.Name, b.Index}
		if r.terms[v] == nil {
			r.terms[v] = &b.To
		}
	}
	return r
}

func (i inst) change(t *api.Term, around int) (api.Term, bool) {
	if t.Op == api.Var {
		if to := i.terms[nameOf(t)]; to != nil {
			return lift(to, around), true
		}
	}
	r := *t
	r.Type = types.Apply(i.types, t.Type)
	return r, false
}

// Apply gives schematic type variables types, and then schematic variables terms.
func Apply(i api.Inst, t api.Term) api.Term { return clone(rebuild(&t, 0, newInst(&i).change)) }

// raiser adds a number to the indices of schematic variables and type variables.
type raiser struct{ by int }

func (u raiser) change(t *api.Term, around int) (api.Term, bool) {
	r := *t
	r.Type = types.Raise(t.Type, u.by)
	if t.Op == api.Var {
		r.Num += u.by
	}
	return r, false
}

// Raise adds a number to the indices of schematic variables and type variables.
func Raise(t api.Term, n int) api.Term { return rebuild(&t, 0, raiser{n}.change) }
