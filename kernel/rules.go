package kernel

import (
	"slices"

	"triforium/api"
	"triforium/term"
	"triforium/theory"
	"triforium/types"
)

// fail leaves where something that a rule wants is not there.
func fail() { panic(api.ErrFail) }

// arguments returns the two arguments of a constant, which a right proposition applies to them; without copying them.
func arguments(t *api.Term, name string) (a, b *api.Term) {
	if t.Op != api.App || t.Kids[0].Op != api.App {
		fail()
	}
	if c := &t.Kids[0].Kids[0]; c.Op != api.Const || c.Name != name {
		fail()
	}
	return &t.Kids[0].Kids[1], &t.Kids[1]
}

// implication returns the premise and the conclusion of what the theorem with a number states.
func (c *call) implication(i int) (a, b *api.Term) {
	return arguments(&c.from[i].prop.term, "imp")
}

// sides returns the sides of the equation that the theorem with a number states, and their type.
func (c *call) sides(i int) (a, b *api.Term, typ *api.Type) {
	t := &c.from[i].prop.term
	a, b = arguments(t, "eq")
	return a, b, &t.Kids[0].Kids[0].Type.Args[0]
}

// app returns an application, abs an abstraction over a fixed variable; they share memory with what they are given.
func app(f, a api.Term) api.Term { return api.Term{Op: api.App, Kids: []api.Term{f, a}} }

func abs(x *api.Term, t api.Term) api.Term {
	return api.Term{Op: api.Abs, Name: x.Name, Type: x.Type, Kids: []api.Term{term.Bind(*x, t)}}
}

// fun returns the type of functions, which shares memory with both types.
func fun(a, b api.Type) api.Type {
	return api.Type{Op: api.TCon, Name: "fun", Args: []api.Type{a, b}}
}

// equation returns the equation of two terms of a type.
func equation(t api.Type, a, b api.Term) api.Term {
	eq := api.Term{Op: api.Const, Name: "eq", Type: fun(t, fun(t, types.Prop()))}
	return app(app(eq, a), b)
}

// equal reports whether terms are equal.
func equal(a, b *api.Term) bool { return term.Equal(*a, *b) }

// mentions reports whether a term has the variable of an abstraction around it.
func mentions(t *api.Term, variable int) bool {
	if t.Op == api.Bound {
		return t.Num == variable
	}
	if t.Op == api.Abs {
		variable++
	}
	return slices.ContainsFunc(t.Kids, func(k api.Term) bool { return mentions(&k, variable) })
}

func (c *call) axiom() *sequent {
	a, ok := theory.Axiom(c.in.theory, c.Name)
	if !ok {
		panic(api.ErrMissing)
	}
	return c.result(a.Prop)
}

func (c *call) oracle() *sequent {
	if !slices.Contains(c.in.theory.Oracles, c.Name) {
		panic(api.ErrMissing)
	}
	return c.sequent(nil, []string{c.Name}, stated(c.Term))
}

func (c *call) assume() *sequent {
	a := stated(c.Term)
	return c.sequent([]*statement{a}, nil, a)
}

func (c *call) impIntro() *sequent {
	b := c.from[0]
	hyps := slices.DeleteFunc(slices.Clone(b.hyps), func(h *statement) bool { return equal(&h.term, &c.Term) })
	p := types.Prop()
	imp := api.Term{Op: api.Const, Name: "imp", Type: fun(p, fun(p, p))}
	return c.sequent(hyps, b.oracles, stated(app(app(imp, c.Term), b.prop.term)))
}

func (c *call) impElim() *sequent {
	a, b := c.implication(0)
	if !equal(a, &c.from[1].prop.term) {
		fail()
	}
	return c.result(*b)
}

// wantFree looks whether the Term is a variable.
func (c *call) wantFree() {
	if c.Term.Op != api.Free {
		panic(api.ErrForm)
	}
}

// wantNew looks whether no hypothesis has a variable with the name of the Term.
func (c *call) wantNew() {
	for _, h := range c.from[0].hyps {
		if h.vars.has(variable{fixed: true, name: c.Term.Name}) {
			fail()
		}
	}
}

func (c *call) allIntro() *sequent {
	c.wantFree()
	c.wantNew()
	all := api.Term{Op: api.Const, Name: "all", Type: fun(fun(c.Term.Type, types.Prop()), types.Prop())}
	return c.result(app(all, abs(&c.Term, c.from[0].prop.term)))
}

func (c *call) allElim() *sequent {
	t := &c.from[0].prop.term
	if t.Op != api.App || t.Kids[0].Op != api.Const || t.Kids[0].Name != "all" || t.Kids[1].Op != api.Abs {
		fail()
	}
	x := &t.Kids[1]
	if !types.Equal(x.Type, c.typ) {
		panic(api.ErrType)
	}
	return c.result(put(&x.Kids[0], &c.Term))
}

func (c *call) reflexive() *sequent { return c.result(equation(c.typ, c.Term, c.Term)) }

func (c *call) symmetric() *sequent {
	a, b, typ := c.sides(0)
	return c.result(equation(*typ, *b, *a))
}

func (c *call) transitive() *sequent {
	a, b, typ := c.sides(0)
	d, e, _ := c.sides(1)
	if !equal(b, d) {
		fail()
	}
	return c.result(equation(*typ, *a, *e))
}

func (c *call) combination() *sequent {
	f, g, functions := c.sides(0)
	a, b, typ := c.sides(1)
	if functions.Op != api.TCon || functions.Name != "fun" || !types.Equal(functions.Args[0], *typ) {
		panic(api.ErrType)
	}
	return c.result(equation(functions.Args[1], app(*f, *a), app(*g, *b)))
}

func (c *call) abstraction() *sequent {
	c.wantFree()
	a, b, typ := c.sides(0)
	c.wantNew()
	return c.result(equation(fun(c.Term.Type, *typ), abs(&c.Term, *a), abs(&c.Term, *b)))
}

func (c *call) beta() *sequent {
	t := &c.Term
	if t.Op != api.App || t.Kids[0].Op != api.Abs {
		fail()
	}
	return c.result(equation(c.typ, *t, put(&t.Kids[0].Kids[0], &t.Kids[1])))
}

func (c *call) eta() *sequent {
	t := &c.Term
	if t.Op != api.Abs || t.Kids[0].Op != api.App {
		fail()
	}
	f, x := &t.Kids[0].Kids[0], &t.Kids[0].Kids[1]
	if x.Op != api.Bound || x.Num != 0 || mentions(f, 0) {
		fail()
	}
	return c.result(equation(c.typ, *t, term.Lift(*f, -1)))
}

func (c *call) eqIntro() *sequent {
	a, b := c.implication(0)
	d, e := c.implication(1)
	if !equal(a, e) || !equal(b, d) {
		fail()
	}
	return c.result(equation(types.Prop(), *a, *b))
}

func (c *call) eqElim() *sequent {
	a, b, _ := c.sides(0)
	if !equal(a, &c.from[1].prop.term) {
		fail()
	}
	return c.result(*b)
}

func (c *call) transfer() *sequent {
	if !c.from[0].in.within(c.in) {
		panic(api.ErrTheory)
	}
	r := *c.from[0]
	r.in = c.in
	return &r
}
