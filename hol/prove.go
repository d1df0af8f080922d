package hol

import (
	"slices"

	"triforium/api"
	"triforium/derive"
	"triforium/equate"
	"triforium/kernel"
	"triforium/term"
	"triforium/types"
)

// A proof is written as a term: `\x. p` takes a premise, or a variable of !!, under a name; a rule or a premise stands ahead of the proofs of its premises, and of terms in braces for the variables of a !!; in brackets behind a rule stands what some of its variables are.

// expr is a proof that was read.
type expr struct {
	vars  []string // of abstractions around
	head  string
	binds []bind
	args  []argument
}

type bind struct {
	name string
	text []string
}

// argument is a term, or a proof.
type argument struct {
	text  []string
	proof *expr
}

// readProof reads a proof.
func readProof(l []string) *expr {
	at := 0
	next := func() string {
		at++
		return l[at-1]
	}
	until := func(ends ...string) []string {
		from := at
		for !slices.Contains(ends, l[at]) {
			at++
		}
		return l[from:at]
	}
	var whole func() *expr
	argued := func(e *expr) {
		for at < len(l) && l[at] != ")" {
			switch x := next(); x {
			case "(":
				e.args = append(e.args, argument{proof: whole()})
				at++
			case "{":
				e.args = append(e.args, argument{text: until("}")})
				at++
			case "[":
				for l[at-1] != "]" {
					name := next()
					at++ // :=
					e.last().binds = append(e.last().binds, bind{name, until(";", "]")})
					at++
				}
			default:
				e.args = append(e.args, argument{proof: &expr{head: x}})
			}
		}
	}
	whole = func() *expr {
		var e expr
		if l[at] == "\\" {
			at++
			e.vars = until(".")
			at++
		}
		e.head = next()
		argued(&e)
		return &e
	}
	return whole()
}

// last returns the proof to which binds belong that stand behind what was read last.
func (e *expr) last() *expr {
	if len(e.args) == 0 {
		return e
	}
	return e.args[len(e.args)-1].proof
}

// prover makes a theorem of a proof. It leaves by a panic, where the proof is none.
type prover struct {
	notation
	library *Library
	world   kernel.World
	maker   *equate.Maker
	hyps    map[string]kernel.Theorem
}

func newProver(l *Library, x line) *prover {
	return &prover{newNotation(x.prop, x.ofNat, l.consts), l, l.world, equate.New(l.world), map[string]kernel.Theorem{}}
}

// proved returns the theorem of a proposition by a proof.
func (p *prover) proved(proof string, prop api.Term) kernel.Theorem {
	th := p.check(readProof(tokens(proof)), prop)
	if !term.Equal(th.Prop(), prop) {
		panic(api.ErrFail)
	}
	return derive.Named(th, prop)
}

// check returns the theorem of a proof of a proposition, in which variables above the index 0 stand for what is not known.
func (p *prover) check(e *expr, goal api.Term) kernel.Theorem {
	if len(e.vars) == 0 {
		return p.apply(e, goal)
	}
	name, rest := e.vars[0], *e
	rest.vars = e.vars[1:]
	if a, b, ok := term.IsImp(goal); ok {
		defer kept(p.hyps, name)()
		p.hyps[name] = derive.Assume(p.world, a)
		return derive.Must(kernel.ImpIntro(a, p.check(&rest, b)))
	}
	f, ok := term.IsAll(goal)
	if !ok {
		panic(api.ErrFail)
	}
	x := api.Term{Op: api.Free, Name: name, Type: f.Type}
	defer kept(p.scope, name)()
	p.scope[name] = x
	return derive.Must(kernel.AllIntro(x, p.check(&rest, term.Put(f.Kids[0], x))))
}

// kept returns what gives a name back what it has now.
func kept[V any](m map[string]V, name string) func() {
	old, had := m[name]
	return func() {
		delete(m, name)
		if had {
			m[name] = old
		}
	}
}

// apply returns the theorem of a rule, or of a premise, with its arguments.
func (p *prover) apply(e *expr, goal api.Term) kernel.Theorem {
	if th, ok := p.hyps[e.head]; ok {
		return p.premise(th, e)
	}
	th := p.library.rule(e.head)
	var m matching
	whole := p.library.raised(e.head)
	for _, v := range term.Vars(whole) {
		for _, b := range e.binds {
			if v.Name == b.name {
				m.match(v, p.term(b.text))
			}
		}
	}
	all, _ := term.Strip(whole)
	from := all[:len(e.args)]
	m.match(behind(whole, len(from)), goal)
	var proofs []kernel.Theorem
	for i, a := range from {
		x := p.check(e.args[i].proof, m.instance(a))
		m.match(a, x.Prop())
		proofs = append(proofs, x)
	}
	if i := m.inst(); len(i.Types)+len(i.Terms) > 0 {
		th = derive.Must(kernel.Instantiate(i, th))
		th = p.maker.Normal(th.Prop()).Of(th)
	}
	return p.eliminated(th, proofs)
}

// behind returns a proposition without some premises.
func behind(t api.Term, n int) api.Term {
	for range n {
		_, t, _ = term.IsImp(t)
	}
	return t
}

// eliminated takes premises from a theorem.
func (p *prover) eliminated(th kernel.Theorem, l []kernel.Theorem) kernel.Theorem {
	for _, x := range l {
		th = derive.Elim(th, x)
	}
	return th
}

// premise returns what follows from a premise by arguments.
func (p *prover) premise(th kernel.Theorem, e *expr) kernel.Theorem {
	for _, a := range e.args {
		if a.proof == nil {
			th = derive.Must(kernel.AllElim(p.term(a.text), th))
			continue
		}
		from, _, _ := term.IsImp(th.Prop())
		th = derive.Elim(th, p.check(a.proof, from))
	}
	return th
}

// matching has what the variables of a rule, those with the index 1, stand for.
type matching struct{ found api.Inst }

// instance returns what the variables make of a term of the rule, as far as they are found.
func (m *matching) instance(t api.Term) api.Term {
	if len(m.found.Types)+len(m.found.Terms) == 0 {
		return t
	}
	r, _ := term.Norm(term.Apply(m.found, t), 1000)
	return r
}

// inst returns what is found, for the variables of the rule as it stands in the library.
func (m *matching) inst() api.Inst {
	var i api.Inst
	for _, b := range m.found.Types {
		b.Index = 0
		i.Types = append(i.Types, b)
	}
	for _, b := range m.found.Terms {
		b.Index = 0
		i.Terms = append(i.Terms, b)
	}
	return i
}

// match looks for what the variables stand for that make a term of the rule another one; it passes over what it cannot tell.
func (m *matching) match(a, t api.Term) {
	a = m.instance(a)
	m.walk(a, t)
}

func (m *matching) walk(a, t api.Term) {
	if a.Op == api.Var && a.Num > 0 {
		if len(schematic(t)) == 0 && term.Closed(t) && !m.has(a) {
			u, _ := term.TypeOf(t)
			m.types(a.Type, u)
			m.found.Terms = append(m.found.Terms, api.TermBind{Name: a.Name, Index: a.Num, To: t})
		}
		return
	}
	if head, _ := term.Spine(a); head.Op == api.Var && head.Num > 0 {
		return
	}
	if a.Op == t.Op && len(a.Kids) == len(t.Kids) {
		m.types(a.Type, t.Type)
		for i := range a.Kids {
			m.walk(a.Kids[i], t.Kids[i])
		}
	}
}

// has reports whether it is found what a variable stands for.
func (m *matching) has(v api.Term) bool {
	return slices.ContainsFunc(m.found.Terms, func(b api.TermBind) bool { return b.Name == v.Name && b.Index == v.Num })
}

// schematic returns the variables of a term for what is not known.
func schematic(t api.Term) []api.Term {
	return slices.DeleteFunc(term.Vars(t), func(v api.Term) bool { return v.Num == 0 })
}

// types looks for what the type variables stand for.
func (m *matching) types(a, t api.Type) {
	a = types.Apply(m.found.Types, a)
	if a.Op == api.TVar && a.Index > 0 {
		if types.MaxIndex(t) < 1 && t.Op != 0 {
			m.found.Types = append(m.found.Types, api.TypeBind{Name: a.Name, Index: a.Index, To: t})
		}
		return
	}
	if a.Op == t.Op && len(a.Args) == len(t.Args) {
		for i := range a.Args {
			m.types(a.Args[i], t.Args[i])
		}
	}
}
