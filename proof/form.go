package proof

import (
	"iter"
	"math"

	"triforium/api"
	"triforium/term"
	"triforium/types"
)

// fields says how a kind of proofs is written, which fields it has beside Op, and how many Kids.
type fields struct {
	word              string
	name, term        bool
	inst, generalizes bool
	kids              int
}

// kinds has the fields of each kind, by its number.
var kinds = [19]fields{
	api.ByAxiom:     {word: "axiom", name: true},
	api.ByOracle:    {word: "oracle", name: true, term: true},
	api.Assume:      {word: "assume", term: true},
	api.ImpIntro:    {word: "impI", term: true, kids: 1},
	api.ImpElim:     {word: "impE", kids: 2},
	api.AllIntro:    {word: "allI", term: true, kids: 1},
	api.AllElim:     {word: "allE", term: true, kids: 1},
	api.Reflexive:   {word: "refl", term: true},
	api.Symmetric:   {word: "sym", kids: 1},
	api.Transitive:  {word: "trans", kids: 2},
	api.Combination: {word: "comb", kids: 2},
	api.Abstraction: {word: "abs", term: true, kids: 1},
	api.Beta:        {word: "beta", term: true},
	api.Eta:         {word: "eta", term: true},
	api.EqIntro:     {word: "eqI", kids: 2},
	api.EqElim:      {word: "eqE", kids: 2},
	api.Instantiate: {word: "inst", inst: true, kids: 1},
	api.Generalize:  {word: "gen", generalizes: true, kids: 1},
}

// unlimited is the limit of a meter that counts all nodes.
const unlimited = math.MaxInt

// Nodes yields the nodes of a proof, each one ahead of its Kids.
func Nodes(p *api.Proof) iter.Seq[*api.Proof] {
	return func(yield func(*api.Proof) bool) { walk(p, yield) }
}

// walk yields the nodes of a proof until one is refused.
func walk(p *api.Proof, yield func(*api.Proof) bool) bool {
	if !yield(p) {
		return false
	}
	for i := range p.Kids {
		if !walk(&p.Kids[i], yield) {
			return false
		}
	}
	return true
}

// meter counts nodes and their depth, and gives up above a limit, since shared memory lets a small value have very many nodes.
type meter struct{ nodes, depth, most int }

// add counts a proof whose root has a depth; false above the limit.
func (m *meter) add(p *api.Proof, depth int) bool {
	m.nodes++
	m.depth = max(m.depth, depth)
	if m.nodes > m.most {
		return false
	}
	for i := range p.Kids {
		if !m.add(&p.Kids[i], depth+1) {
			return false
		}
	}
	return true
}

// check returns the error of a proof's form.
func check(p *api.Proof) api.Errno {
	m := meter{most: api.MaxProof}
	m.add(p, 1)
	if m.nodes > api.MaxProof {
		return api.ErrCount
	}
	if m.depth > MaxNest {
		return api.ErrDepth
	}
	for n := range Nodes(p) {
		if e := nodeError(n); e != api.OK {
			return e
		}
	}
	return api.OK
}

// nodeError returns the error of a node alone.
func nodeError(n *api.Proof) api.Errno {
	if n.Op < api.ByAxiom || n.Op > api.Generalize {
		return ErrKind
	}
	if len(n.Kids) != kinds[n.Op].kids || hasMore(n) {
		return api.ErrForm
	}
	if tooLarge(n) {
		return api.ErrLarge
	}
	return api.OK
}

// hasMore reports whether a node of a kind that there is has a field that its kind does not have.
func hasMore(n *api.Proof) bool {
	f := kinds[n.Op]
	switch {
	case !f.name && n.Name != "", !f.term && !term.Equal(n.Term, api.Term{}):
		return true
	case !f.inst && (len(n.Inst.Types) > 0 || len(n.Inst.Terms) > 0):
		return true
	}
	return !f.generalizes && (n.Num != 0 || len(n.TypeNames) > 0 || len(n.TermNames) > 0)
}

// tooLarge reports whether a term or a type of a node is too large.
func tooLarge(n *api.Proof) bool {
	for i := range n.Inst.Types {
		if types.SizeError(&n.Inst.Types[i].To) != api.OK {
			return true
		}
	}
	for i := range n.Inst.Terms {
		if term.SizeError(&n.Inst.Terms[i].To) != api.OK {
			return true
		}
	}
	return term.SizeError(&n.Term) != api.OK
}

// cloneNode returns a node without Kids in new memory.
func cloneNode(n *api.Proof) api.Proof {
	r := *n
	r.Kids = nil
	r.Term = term.Lift(n.Term, 0)
	r.TypeNames = append([]string(nil), n.TypeNames...)
	r.TermNames = append([]string(nil), n.TermNames...)
	r.Inst = api.Inst{}
	for _, b := range n.Inst.Types {
		b.To = types.Apply(nil, b.To)
		r.Inst.Types = append(r.Inst.Types, b)
	}
	for _, b := range n.Inst.Terms {
		b.To = term.Lift(b.To, 0)
		r.Inst.Terms = append(r.Inst.Terms, b)
	}
	return r
}

// clone returns a proof in new memory.
func clone(p *api.Proof) api.Proof {
	r := cloneNode(p)
	if len(p.Kids) == 0 {
		return r
	}
	r.Kids = make([]api.Proof, len(p.Kids))
	for i := range p.Kids {
		r.Kids[i] = clone(&p.Kids[i])
	}
	return r
}
