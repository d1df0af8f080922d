package resolve

import (
	"triforium/api"
	"triforium/derive"
	"triforium/kernel"
	"triforium/term"
)

// name names a variable of terms or types.
type name struct {
	name  string
	index int
}

// Limits of resolution.
const (
	maxImps  = 200
	maxHyps  = 100
	maxVars  = 100
	maxNodes = 2000
	maxDepth = 100
	maxFuel  = 1000
	// of terms on the way to a normal form
	maxNodesOnWay = 9000
	maxDepthOnWay = 300
)

// limited reports whether the theorems of a call are within the limits of resolution, as far as they are counted together.
func (c *call) limited() bool {
	imps, hyps, vars, typeVars := 0, 0, 0, 0
	for _, th := range []kernel.Theorem{c.state, c.rule} {
		if !th.Is() {
			continue
		}
		prop := th.Prop()
		for n := range term.Nodes(&prop) {
			if isConst(n, "imp") {
				imps++
			}
		}
		v, u := derive.Variables(th)
		hyps, vars, typeVars = hyps+len(th.Hyps()), vars+len(v), typeVars+len(u)
		for _, t := range derive.Parts(th) {
			if !within(&t) {
				return false
			}
		}
	}
	return imps <= maxImps && hyps <= maxHyps && vars <= maxVars && typeVars <= maxVars
}

// within reports whether a term and its types are within the limits of resolution. What an instantiation makes of it is no smaller.
func within(t *api.Term) bool {
	var none sizer
	return none.within(t)
}

// sizer counts the nodes of terms and types behind an instantiation, without making these, which could be far too large.
type sizer struct {
	types map[name]*api.Type
	terms map[name]*api.Term
	sizes map[name]size // of terms, and their depths
}

// size is a number of nodes, and how many are within each other.
type size struct{ nodes, depth int }

// newSizer returns the sizer of an instantiation.
func newSizer(i *api.Inst) sizer {
	s := sizer{map[name]*api.Type{}, map[name]*api.Term{}, map[name]size{}}
	for k := range i.Types {
		s.types[name{i.Types[k].Name, i.Types[k].Index}] = &i.Types[k].To
	}
	for k := range i.Terms {
		b := &i.Terms[k]
		v := name{b.Name, b.Index}
		s.terms[v] = &b.To
		nodes, depth := term.Size(b.To)
		s.sizes[v] = size{nodes, depth}
	}
	return s
}

// within reports whether what a term becomes is within the limits.
func (s sizer) within(t *api.Term) bool {
	nodes := 0
	return s.term(t, 1, &nodes)
}

// term counts the nodes of a term at a depth; false above the limits.
func (s sizer) term(t *api.Term, depth int, nodes *int) bool {
	if v := (name{t.Name, t.Num}); t.Op == api.Var && s.terms[v] != nil {
		*nodes += s.sizes[v].nodes
		return *nodes <= maxNodes && depth-1+s.sizes[v].depth <= maxDepth && within(s.terms[v])
	}
	*nodes++
	typeNodes := 0
	if *nodes > maxNodes || depth > maxDepth || !s.typ(&t.Type, 1, &typeNodes) {
		return false
	}
	for i := range t.Kids {
		if !s.term(&t.Kids[i], depth+1, nodes) {
			return false
		}
	}
	return true
}

// typ counts the nodes of a type at a depth; false above the limits.
func (s sizer) typ(t *api.Type, depth int, nodes *int) bool {
	if t.Op == api.TVar {
		if to := s.types[name{t.Name, t.Index}]; to != nil {
			return sizer{}.typ(to, depth, nodes)
		}
	}
	*nodes++
	if *nodes > maxNodes || depth > maxDepth {
		return false
	}
	for i := range t.Args {
		if !s.typ(&t.Args[i], depth+1, nodes) {
			return false
		}
	}
	return true
}

// normal returns what an instantiation makes of a proposition, in its beta normal form; it leaves, if one of both is not within the limits.
func (s sizer) normal(i api.Inst, t api.Term) api.Term {
	if !s.within(&t) {
		panic(api.ErrLarge)
	}
	r, e := term.NormWithin(term.Apply(i, t), maxFuel, maxNodesOnWay, maxDepthOnWay)
	if e != api.OK || !within(&r) {
		panic(api.ErrLarge)
	}
	return r
}

// restricted returns the binds of an instantiation for what stands in a theorem.
func restricted(i api.Inst, th kernel.Theorem) api.Inst {
	vars, typeVars := derive.Variables(th)
	wanted, wantedTypes := map[name]bool{}, map[name]bool{}
	for _, v := range vars {
		wanted[name{v.Name, v.Num}] = true
	}
	for _, v := range typeVars {
		wantedTypes[name{v.Name, v.Index}] = true
	}
	var r api.Inst
	for _, b := range i.Types {
		if wantedTypes[name{b.Name, b.Index}] {
			r.Types = append(r.Types, b)
		}
	}
	for _, b := range i.Terms {
		if wanted[name{b.Name, b.Index}] {
			r.Terms = append(r.Terms, b)
		}
	}
	return r
}

// instance returns an instance of a theorem.
func instance(i api.Inst, th kernel.Theorem) kernel.Theorem {
	i = restricted(i, th)
	if len(i.Types)+len(i.Terms) == 0 {
		return th
	}
	return derive.Must(kernel.Instantiate(i, th))
}
