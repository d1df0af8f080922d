package sat

import (
	"triforium/api"
	"triforium/hol"
)

// encoding is a proposition as clauses, and what each one comes from.
type encoding struct {
	whole   api.Term
	vars    []api.Term // the terms for which the atoms of clauses stand: atoms of the proposition, then its connectives
	atoms   int
	clauses []Clause
	reasons []reason
}

// reason is the rule by which a clause is true: that some terms cannot have some values. The clause of the whole proposition has none.
type reason struct {
	rule  string
	p, q  api.Term
	clash []clash
}

// clash is a term, and the value that it has, if the rule is used.
type clash struct {
	of    api.Term
	value bool
}

// encode returns the encoding of a proposition, or leaves with api.ErrLarge.
func encode(t api.Term) *encoding {
	x := encoding{whole: t, vars: hol.Atoms(t, MaxAtoms)}
	x.atoms = len(x.vars)
	if x.atoms > MaxAtoms {
		panic(api.ErrLarge)
	}
	x.literal(t)
	x.add(reason{clash: []clash{{t, false}}})
	return &x
}

// literal returns the literal that stands for a term, with the clauses for it.
func (x *encoding) literal(t api.Term) literal {
	name, args, ok := hol.Connective(t)
	if ok && name == "Not" {
		return -x.literal(args[0])
	}
	if i := hol.AtomIndex(x.vars, t); i >= 0 {
		return literal(i + 1)
	}
	for _, a := range args {
		x.literal(a)
	}
	x.vars = append(x.vars, t)
	if len(x.vars) > MaxAtoms {
		panic(api.ErrLarge)
	}
	for _, r := range reasons(name, t, args) {
		x.add(r)
	}
	return literal(len(x.vars))
}

// add adds the clause that the terms of a reason do not have all their values, if it is not always true.
func (x *encoding) add(r reason) {
	var l []literal
	for _, c := range r.clash {
		y := x.literal(c.of)
		if c.value {
			y = -y
		}
		l = append(l, y)
	}
	c, ok := right(l)
	if !ok {
		return
	}
	x.clauses, x.reasons = append(x.clauses, c), append(x.reasons, r)
	if len(x.clauses) > MaxClauses {
		panic(api.ErrLarge)
	}
}

// reasons returns what a term of a connective cannot be together with its arguments.
func reasons(name string, t api.Term, args []api.Term) []reason {
	if len(args) == 0 {
		if name == "True" {
			return []reason{{rule: "true_clash", clash: []clash{{t, false}}}}
		}
		return []reason{{rule: "false_clash", clash: []clash{{t, true}}}}
	}
	p, q := args[0], args[1]
	with := func(rule string, value bool, l ...clash) reason {
		return reason{rule, p, q, append([]clash{{t, value}}, l...)}
	}
	switch name {
	case "And":
		return []reason{with("and_clash1", true, clash{p, false}), with("and_clash2", true, clash{q, false}), with("and_clash3", false, clash{p, true}, clash{q, true})}
	case "Or":
		return []reason{with("or_clash1", true, clash{p, false}, clash{q, false}), with("or_clash2", false, clash{p, true}), with("or_clash3", false, clash{q, true})}
	case "Implies":
		return []reason{with("imp_clash1", true, clash{p, true}, clash{q, false}), with("imp_clash2", false, clash{p, false}), with("imp_clash3", false, clash{q, true})}
	}
	return []reason{
		with("iff_clash1", true, clash{p, true}, clash{q, false}), with("iff_clash2", true, clash{p, false}, clash{q, true}),
		with("iff_clash3", false, clash{p, false}, clash{q, false}), with("iff_clash4", false, clash{p, true}, clash{q, true}),
	}
}
