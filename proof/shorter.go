package proof

import (
	"triforium/api"
	"triforium/term"
)

// Shorter returns a proof of the same, from which detours are removed.
func Shorter(p api.Proof) (api.Proof, api.Errno) {
	if e := check(&p); e != api.OK {
		return api.Proof{}, e
	}
	r := shorter(&p)
	return clone(&r), api.OK
}

// shorter returns the shorter proof of one of the right form, with which it shares memory.
func shorter(p *api.Proof) api.Proof {
	r := *p
	r.Kids = make([]api.Proof, len(p.Kids))
	for i := range p.Kids {
		r.Kids[i] = shorter(&p.Kids[i])
	}
	return direct(&r)
}

// detour is a node with the kinds of its Kids, 0 for none.
type detour struct{ kind, first, second int }

// detourOf returns the kinds of a node and of its Kids.
func detourOf(p *api.Proof) detour {
	d := detour{kind: p.Op}
	if len(p.Kids) > 0 {
		d.first = p.Kids[0].Op
	}
	if len(p.Kids) > 1 {
		d.second = p.Kids[1].Op
	}
	return d
}

// direct returns what a node becomes whose Kids are shorter ones already.
func direct(p *api.Proof) api.Proof {
	d := detourOf(p)
	switch d {
	case detour{api.Symmetric, api.Symmetric, 0}:
		return p.Kids[0].Kids[0]
	case detour{api.Symmetric, api.Reflexive, 0}:
		return p.Kids[0]
	case detour{api.Transitive, api.Reflexive, d.second}, detour{api.EqElim, api.Reflexive, d.second}:
		return p.Kids[1]
	case detour{api.Transitive, d.first, api.Reflexive}:
		return p.Kids[0]
	case detour{api.Combination, api.Reflexive, api.Reflexive}:
		return reflexive(term.Apps(p.Kids[0].Term, []api.Term{p.Kids[1].Term}))
	case detour{api.Instantiate, d.first, 0}:
		if len(p.Inst.Types) == 0 && len(p.Inst.Terms) == 0 {
			return p.Kids[0]
		}
	case detour{api.Generalize, d.first, 0}:
		if len(p.TypeNames) == 0 && len(p.TermNames) == 0 {
			return p.Kids[0]
		}
	case detour{api.Abstraction, api.Reflexive, 0}:
		if x := &p.Term; x.Op == api.Free {
			body := term.Bind(*x, p.Kids[0].Term)
			return reflexive(api.Term{Op: api.Abs, Name: x.Name, Type: x.Type, Kids: []api.Term{body}})
		}
	case detour{api.AllElim, api.AllIntro, 0}:
		if p.Term.Op == api.Free && term.Equal(p.Term, p.Kids[0].Term) {
			return p.Kids[0].Kids[0]
		}
	}
	return *p
}

// reflexive returns the node that a term is equal to itself.
func reflexive(t api.Term) api.Proof { return api.Proof{Op: api.Reflexive, Term: t} }
