package checker

import (
	"slices"

	"triforium/api"
)

// maxBinds is how many variables of a kind are changed at once.
const maxBinds = 100

// instance has what stands for schematic variables.
type instance struct {
	types map[variable]*api.Type
	terms map[variable]*api.Term
	nodes map[variable]int // of terms
}

// instantiated returns the instance of a fact.
func (w *world) instantiated(i *api.Inst, f *fact) *fact {
	want(len(i.Types) <= maxBinds && len(i.Terms) <= maxBinds)
	x := instance{map[variable]*api.Type{}, map[variable]*api.Term{}, map[variable]int{}}
	all := variables{}
	for _, c := range f.claims() {
		for v, t := range c.vars {
			all.add(v, t)
		}
	}
	for k := range i.Types {
		b := &i.Types[k]
		v := variable{api.TVar, b.Name, b.Index}
		w.rightType(&b.To)
		want(x.types[v] == nil && (all[v] == nil || w.hasSort(&b.To, all[v].Sort)))
		x.types[v] = &b.To
	}
	for k := range i.Terms {
		b := &i.Terms[k]
		v := variable{-api.Var, b.Name, b.Index}
		typ := w.rightTerm(&b.To)
		want(x.terms[v] == nil && (all[v] == nil || x.isMade(all[v], &typ)))
		x.terms[v] = &b.To
		x.nodes[v], _ = sizeOf(&b.To)
	}
	var hyps []*claim
	for _, h := range f.hyps {
		hyps = append(hyps, newClaim(x.term(&h.term)))
	}
	return newFact(ordered(hyps), x.term(&f.prop.term), f.oracles)
}

// isMade reports whether a type becomes another one.
func (x *instance) isMade(t, other *api.Type) bool {
	if t.Op == api.TVar {
		if to := x.types[variable{api.TVar, t.Name, t.Index}]; to != nil {
			return sameType(to, other)
		}
	}
	if t.Op != other.Op || t.Name != other.Name || t.Index != other.Index || !slices.Equal(t.Sort, other.Sort) || len(t.Args) != len(other.Args) {
		return false
	}
	for i := range t.Args {
		if !x.isMade(&t.Args[i], &other.Args[i]) {
			return false
		}
	}
	return true
}

// term returns what a term becomes. What is put there has no loose bound variables.
func (x *instance) term(t *api.Term) api.Term {
	c := change{left: api.MaxTerm}
	c.put = func(t *api.Term, around int) *api.Term {
		v := variable{-api.Var, t.Name, t.Num}
		if t.Op != api.Var || x.terms[v] == nil {
			return nil
		}
		c.take(x.nodes[v])
		return x.terms[v]
	}
	if len(x.types) > 0 {
		c.typ = x.typ
	}
	return c.term(t, 0)
}

// typ returns what a type becomes. It shares memory with what is put there, and is measured only behind this.
func (x *instance) typ(t *api.Type) api.Type {
	if t.Op == api.TVar {
		if to := x.types[variable{api.TVar, t.Name, t.Index}]; to != nil {
			return *to
		}
	}
	r := *t
	r.Args = slices.Clone(t.Args)
	for i := range r.Args {
		r.Args[i] = x.typ(&t.Args[i])
	}
	return r
}

// generalized returns a fact with schematic variables in the place of fixed ones.
func generalized(p *api.Proof, f *fact) *fact {
	want(p.Num >= 0 && p.Num <= maxIndex && len(p.TypeNames) <= maxBinds && len(p.TermNames) <= maxBinds)
	want(isSet(p.TypeNames) && isSet(p.TermNames))
	for _, n := range p.TypeNames {
		wantGeneral(f, variable{api.TFree, n, 0}, variable{api.TVar, n, p.Num})
	}
	for _, n := range p.TermNames {
		wantGeneral(f, freeOf(n), variable{-api.Var, n, p.Num})
	}
	var general func(t *api.Type) api.Type
	general = func(t *api.Type) api.Type {
		r := *t
		if t.Op == api.TFree && slices.Contains(p.TypeNames, t.Name) {
			r.Op, r.Index = api.TVar, p.Num
		}
		r.Args = slices.Clone(t.Args)
		for i := range r.Args {
			r.Args[i] = general(&t.Args[i])
		}
		return r
	}
	c := change{left: api.MaxTerm, typ: general}
	c.put = func(t *api.Term, around int) *api.Term {
		if t.Op != api.Free || !slices.Contains(p.TermNames, t.Name) {
			return nil
		}
		c.take(1)
		return &api.Term{Op: api.Var, Name: t.Name, Num: p.Num, Type: general(&t.Type)}
	}
	return newFact(f.hyps, c.term(&f.prop.term, 0), f.oracles)
}

// isSet reports whether no two elements of a list are equal.
func isSet(l []string) bool {
	for i, s := range l {
		if slices.Contains(l[:i], s) {
			return false
		}
	}
	return true
}

// wantGeneral wants a fixed variable to be in no hypothesis, and the schematic one in the place of it nowhere.
func wantGeneral(f *fact, fixed, schematic variable) {
	want(f.prop.vars[schematic] == nil)
	for _, h := range f.hyps {
		want(h.vars[fixed] == nil && h.vars[schematic] == nil)
	}
}
