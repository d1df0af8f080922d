package checker

import "triforium/api"

// apply returns an application.
func apply(f, a api.Term) api.Term { return api.Term{Op: api.App, Kids: []api.Term{f, a}} }

// constant returns a constant of functions from a type, or from two of it, to propositions.
func constant(name string, args ...api.Type) api.Term {
	t := api.Type{Op: api.TCon, Name: "prop"}
	for i := len(args) - 1; i >= 0; i-- {
		t = function(args[i], t)
	}
	return api.Term{Op: api.Const, Name: name, Type: t}
}

// equation returns the equation of two terms of a type.
func equation(t api.Type, a, b api.Term) api.Term {
	return apply(apply(constant("eq", t, t), a), b)
}

// implication returns the implication of two propositions.
func implication(a, b api.Term) api.Term {
	p := api.Type{Op: api.TCon, Name: "prop"}
	return apply(apply(constant("imp", p, p), a), b)
}

// universal returns the proposition that another one holds for all values of a fixed variable.
func universal(x, t *api.Term) api.Term {
	body := abstracted(x, t)
	return apply(constant("all", function(x.Type, api.Type{Op: api.TCon, Name: "prop"})), body)
}

// isConst reports whether a term is a constant with a name.
func isConst(t *api.Term, name string) bool { return t.Op == api.Const && t.Name == name }

// argumentsOf wants a term to be a constant with two arguments, and returns these.
func argumentsOf(t *api.Term, name string) (a, b *api.Term) {
	want(t.Op == api.App && t.Kids[0].Op == api.App && isConst(&t.Kids[0].Kids[0], name))
	return &t.Kids[0].Kids[1], &t.Kids[1]
}

// implicationOf wants an implication, and returns its premise and its conclusion.
func implicationOf(t *api.Term) (a, b *api.Term) { return argumentsOf(t, "imp") }

// equationOf wants an equation, and returns its sides and their type.
func equationOf(t *api.Term) (a, b *api.Term, typ *api.Type) {
	a, b = argumentsOf(t, "eq")
	return a, b, &t.Kids[0].Kids[0].Type.Args[0]
}
