package kernel

import (
	"strings"

	"triforium/api"
	"triforium/types"
)

// What a rule takes as the Term of a step.
const (
	noTerm      = 0
	anyTerm     = 1
	proposition = 2
)

// rule says what a rule takes, and how it is made of that.
type rule struct {
	make        func(*call) *sequent
	theorems    int
	takesTheory bool
	term        int
}

// ruleOf returns a rule that there is.
func ruleOf(number int) rule {
	return [LastRule + 1]rule{
		api.ByAxiom:     {make: (*call).axiom, takesTheory: true},
		api.ByOracle:    {make: (*call).oracle, takesTheory: true, term: proposition},
		api.Assume:      {make: (*call).assume, takesTheory: true, term: proposition},
		api.ImpIntro:    {make: (*call).impIntro, theorems: 1, term: proposition},
		api.ImpElim:     {make: (*call).impElim, theorems: 2},
		api.AllIntro:    {make: (*call).allIntro, theorems: 1, term: anyTerm},
		api.AllElim:     {make: (*call).allElim, theorems: 1, term: anyTerm},
		api.Reflexive:   {make: (*call).reflexive, takesTheory: true, term: anyTerm},
		api.Symmetric:   {make: (*call).symmetric, theorems: 1},
		api.Transitive:  {make: (*call).transitive, theorems: 2},
		api.Combination: {make: (*call).combination, theorems: 2},
		api.Abstraction: {make: (*call).abstraction, theorems: 1, term: anyTerm},
		api.Beta:        {make: (*call).beta, takesTheory: true, term: anyTerm},
		api.Eta:         {make: (*call).eta, takesTheory: true, term: anyTerm},
		api.EqIntro:     {make: (*call).eqIntro, theorems: 2},
		api.EqElim:      {make: (*call).eqElim, theorems: 2},
		api.Instantiate: {make: (*call).instantiate, theorems: 1},
		api.Generalize:  {make: (*call).generalize, theorems: 1},
		TransferRule:    {make: (*call).transfer, theorems: 1, takesTheory: true},
	}[number]
}

// call is an application of a rule. Its methods leave with an error by a panic.
type call struct {
	Step
	in   *world     // the theory that is given, or that of the theorems
	from []*sequent // the theorems
	typ  api.Type   // of the Term, which is in memory of its own
}

// perform makes a step with a rule that there is, and as many theorems as it takes.
func perform(s Step, open func() *world, from ...Theorem) (t Theorem, e api.Errno) {
	defer func() {
		if x := recover(); x != nil {
			t, e = Theorem{}, failure(x)
		}
	}()
	r := ruleOf(s.Rule)
	c := call{Step: s}
	c.takeTheorems(from)
	if r.takesTheory {
		c.in = open()
	}
	if r.term != noTerm {
		c.takeTerm(r.term)
	}
	return Theorem{r.make(&c)}, api.OK
}

// failure returns the error with which a function was left.
func failure(x any) api.Errno {
	if e, ok := x.(api.Errno); ok {
		return e
	}
	return api.ErrFail
}

// takeTheorems looks whether there are theorems, and whether their theories fit together.
func (c *call) takeTheorems(from []Theorem) {
	for _, t := range from {
		if t.is == nil {
			panic(ErrNone)
		}
		c.from = append(c.from, t.is)
	}
	switch len(c.from) {
	case 1:
		c.in = c.from[0].in
	case 2:
		c.in = common(c.from[0].in, c.from[1].in)
		union(c.from[0].vars, c.from[1].vars).agree()
	}
}

// takeTerm looks whether the Term is right in the theory, and fits to a theorem beside it.
func (c *call) takeTerm(wanted int) {
	typ, e := c.in.signature.Check(c.Term)
	if e != api.OK {
		panic(e)
	}
	if wanted == proposition && !types.Equal(typ, types.Prop()) {
		panic(api.ErrType)
	}
	c.typ, c.Term = typ, copied(c.Term)
	if len(c.from) > 0 {
		union(c.from[0].vars, stated(c.Term).vars).agree()
	}
}

// hyps returns the hypotheses of all theorems.
func (c *call) hyps() []*statement {
	var l []*statement
	for _, s := range c.from {
		l = merged(l, s.hyps, compareStatements)
	}
	return l
}

// oracles returns the oracles of all theorems.
func (c *call) oracles() []string {
	var l []string
	for _, s := range c.from {
		l = merged(l, s.oracles, strings.Compare)
	}
	return l
}

// fields returns the node of the proof without Kids.
func (c *call) fields() api.Proof {
	p := api.Proof{Op: c.Rule}
	switch c.Rule {
	case api.ByAxiom, api.ByOracle:
		p.Name = c.Name
	case api.Instantiate:
		p.Inst = copiedInst(c.Inst)
	case api.Generalize:
		p.Num = c.Num
		p.TypeNames, p.TermNames = append(p.TypeNames, c.TypeNames...), append(p.TermNames, c.TermNames...)
	}
	if ruleOf(c.Rule).term != noTerm {
		p.Term = c.Term
	}
	return p
}

// result returns what states a proposition with the hypotheses and oracles of all theorems.
func (c *call) result(prop api.Term) *sequent {
	return c.sequent(c.hyps(), c.oracles(), stated(prop))
}

// sequent returns what a rule has made, if the limits let it be.
func (c *call) sequent(hyps []*statement, oracles []string, prop *statement) *sequent {
	var kids []*node
	for _, s := range c.from {
		kids = append(kids, s.proof)
	}
	r := &sequent{in: c.in, hyps: hyps, prop: prop, oracles: oracles, proof: newNode(c.fields(), kids)}
	if len(hyps) > api.MaxHyps {
		panic(api.ErrCount)
	}
	large := prop.large || r.proof.tooLarge()
	vars := []variables{prop.vars}
	for _, h := range hyps {
		large = large || h.large
		vars = append(vars, h.vars)
	}
	if large {
		panic(api.ErrLarge)
	}
	r.vars = union(vars...)
	r.vars.agree()
	return r
}
