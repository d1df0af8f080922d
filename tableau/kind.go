package tableau

import (
	"slices"

	"triforium/api"
	"triforium/hol"
	"triforium/term"
	"triforium/types"
)

// kind is what a node does with a formula.
type kind int

// Kind returns the kind of node that a formula wants (0 for an atom or its negation), and the formulas that it puts on branches: of Gamma and Delta the abstraction.
func Kind(t api.Term) (int, []api.Term) {
	s := shapeOf(t)
	var l []api.Term
	for _, p := range s.parts {
		l = append(l, term.Lift(p, 0))
	}
	return int(s.kind), l
}

// shape is a formula taken apart: its kind and parts, the rule that eliminates it, and what stands for this rule's variables.
type shape struct {
	kind  kind
	parts []api.Term
	rule  string
	args  []api.Term
}

// applied returns the constant that is applied to a number of arguments, and these, which share memory with the term; zero values for another term.
func applied(t api.Term, n int) (api.Term, []api.Term) {
	var args []api.Term
	for t.Op == api.App && len(t.Kids) == 2 {
		args = append(args, t.Kids[1])
		t = t.Kids[0]
	}
	if t.Op != api.Const || len(args) != n {
		return api.Term{}, nil
	}
	slices.Reverse(args)
	return t, args
}

// shapeOf takes a formula apart.
func shapeOf(t api.Term) shape {
	if c, l := applied(t, 1); c.Name == "Not" {
		return negated(l[0])
	}
	if c, l := applied(t, 2); len(l) == 2 {
		p, q := l[0], l[1]
		switch {
		case c.Name == "And":
			return shape{Alpha, l, "conjE", l}
		case c.Name == "Or":
			return shape{Beta, l, "disjE", l}
		case c.Name == "Implies":
			return shape{Beta, []api.Term{hol.Not(p), q}, "imp_cases", l}
		case isIff(c):
			return shape{Beta, []api.Term{hol.And(p, q), hol.And(hol.Not(p), hol.Not(q))}, "iff_cases", l}
		}
	}
	if c, l := applied(t, 1); len(l) == 1 {
		switch c.Name {
		case "All":
			return quantified(Gamma, "allE", l[0], false)
		case "Ex":
			return quantified(Delta, "exE", l[0], false)
		}
	}
	return shape{}
}

// negated takes the negation of a term apart.
func negated(t api.Term) shape {
	if c, l := applied(t, 1); len(l) == 1 {
		switch c.Name {
		case "Not":
			return shape{Twice, l, "twiceE", l}
		case "Ex":
			return quantified(Gamma, "not_exE", l[0], true)
		case "All":
			return quantified(Delta, "not_allE", l[0], true)
		}
	}
	c, l := applied(t, 2)
	if len(l) != 2 {
		return shape{}
	}
	p, q := l[0], l[1]
	switch {
	case c.Name == "Or":
		return shape{Alpha, []api.Term{hol.Not(p), hol.Not(q)}, "not_disjE", l}
	case c.Name == "Implies":
		return shape{Alpha, []api.Term{p, hol.Not(q)}, "not_impE", l}
	case c.Name == "And":
		return shape{Beta, []api.Term{hol.Not(p), hol.Not(q)}, "not_conjE", l}
	case isIff(c):
		return shape{Beta, []api.Term{hol.And(p, hol.Not(q)), hol.And(hol.Not(p), q)}, "not_iffE", l}
	}
	return shape{}
}

// isIff reports whether a constant is Equal of terms of the type bool.
func isIff(c api.Term) bool {
	b := hol.BoolType()
	return c.Name == "Equal" && types.Equal(c.Type, types.Fun(b, types.Fun(b, b)))
}

// quantified takes a quantified function apart, or the negation of one.
func quantified(k kind, rule string, f api.Term, negation bool) shape {
	part := f
	if f.Op != api.Abs || len(f.Kids) != 1 {
		typ, e := term.TypeOf(f)
		from, to := types.Strip(typ)
		if e != api.OK || len(from) != 1 || !types.Equal(to, hol.BoolType()) {
			return shape{}
		}
		body := api.Term{Op: api.App, Kids: []api.Term{term.Lift(f, 1), {Op: api.Bound}}}
		part = api.Term{Op: api.Abs, Name: "x", Type: from[0], Kids: []api.Term{body}}
	}
	if negation {
		part.Kids = []api.Term{hol.Not(part.Kids[0])}
	}
	return shape{k, []api.Term{part}, rule, []api.Term{f}}
}

// isNot reports whether a formula is the negation of another one.
func isNot(t, p api.Term) bool {
	return t.Op == api.App && len(t.Kids) == 2 && t.Kids[0].Op == api.Const && t.Kids[0].Name == "Not" && term.Equal(t.Kids[1], p)
}

// isWrong reports whether a formula contradicts itself, and which rule shows that: what is refuted by itself, by trueI or by refl.
func isWrong(t api.Term) (string, bool) {
	if c, _ := applied(t, 0); c.Name == "False" {
		return "", true
	}
	c, l := applied(t, 1)
	if c.Name != "Not" {
		return "", false
	}
	if c, _ := applied(l[0], 0); c.Name == "True" {
		return "trueI", true
	}
	c, l = applied(l[0], 2)
	return "refl", c.Name == "Equal" && term.Equal(l[0], l[1])
}

// instance returns the instance of an abstraction by a term; false, if it has no normal form within the limits.
func instance(part, by api.Term) (api.Term, bool) {
	r, e := term.Norm(term.Put(part.Kids[0], by), maxSteps)
	return r, e == api.OK
}
