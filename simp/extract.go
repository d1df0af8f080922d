package simp

import (
	"triforium/api"
	"triforium/derive"
	"triforium/hol"
	"triforium/kernel"
	"triforium/term"
)

// kind tells propositions that mean equations in different ways apart.
type kind int

const (
	atom kind = iota
	truth
	conjunction
	implication
	universal
	equality
	negation
)

// kindOf returns the kind of a term of the type bool, and its arguments.
func kindOf(p api.Term) (kind, []api.Term) {
	head, args := term.Spine(p)
	for k := truth; k <= negation; k++ {
		if head.Op == api.Const && k.is(head.Name, len(args)) {
			return k, args
		}
	}
	return atom, nil
}

// is reports whether a constant with so many arguments is of a kind.
func (k kind) is(name string, args int) bool {
	switch k {
	case truth:
		return name == "True" && args == 0
	case conjunction:
		return name == "And" && args == 2
	case implication:
		return name == "Implies" && args == 2
	case universal:
		return name == "All" && args == 1
	case equality:
		return name == "Equal" && args == 2
	case negation:
		return name == "Not" && args == 1
	}
	return false
}

// extract returns the equations of a theorem.
func (g *ground) extract(th kernel.Theorem) []kernel.Theorem {
	if nodes, _ := term.Size(th.Prop()); nodes > MaxSize {
		panic(api.ErrLarge)
	}
	return derive.Limited(func() []kernel.Theorem { return g.apart(th) })
}

// apart takes a theorem apart to its equations.
func (g *ground) apart(th kernel.Theorem) []kernel.Theorem {
	_, c := term.Strip(th.Prop())
	if _, _, ok := term.IsEq(c); ok {
		return g.equationsOnly(th)
	}
	p, ok := hol.Untruth(c)
	if !ok {
		return nil
	}
	k, args := kindOf(p)
	lib, none := g.library, api.Type{}
	switch k {
	case truth:
		return nil
	case conjunction:
		both := []api.TermBind{hol.For("P", args[0]), hol.For("Q", args[1])}
		first := g.under(th, func(x kernel.Theorem) kernel.Theorem { return derive.Elim(lib.With("conjunct1", none, both...), x) })
		second := g.under(th, func(x kernel.Theorem) kernel.Theorem { return derive.Elim(lib.With("conjunct2", none, both...), x) })
		return append(g.apart(first), g.apart(second)...)
	case implication:
		return g.apart(g.under(th, func(x kernel.Theorem) kernel.Theorem {
			a := hol.Truth(args[0])
			x = derive.Elim(lib.With("mp", none, hol.For("P", args[0]), hol.For("Q", args[1])), x)
			return derive.Intro([]api.Term{a}, derive.Elim(x, derive.Assume(g.world, a)))
		}))
	case universal:
		return g.apart(g.instance(th, args[0]))
	case equality:
		l := g.equationsOnly(g.under(th, func(x kernel.Theorem) kernel.Theorem { return g.meta(args[0], args[1], x) }))
		if len(l) > 0 {
			return l
		}
	case negation:
		return g.equationsOnly(g.under(th, func(x kernel.Theorem) kernel.Theorem {
			return g.meta(args[0], hol.False(), derive.Elim(lib.With("eq_False", none, hol.For("P", args[0])), x))
		}))
	}
	return g.equationsOnly(g.under(th, func(x kernel.Theorem) kernel.Theorem {
		return g.meta(p, hol.True(), derive.Elim(lib.With("eq_True", none, hol.For("P", p)), x))
	}))
}

// equationsOnly returns a theorem, if it has the form of an equation.
func (g *ground) equationsOnly(th kernel.Theorem) []kernel.Theorem {
	conds, c := term.Strip(th.Prop())
	if l, r, ok := term.IsEq(c); !ok || !isEquation(conds, l, r) {
		return nil
	}
	return []kernel.Theorem{th}
}

// under returns what a function makes of a theorem, behind its premises.
func (g *ground) under(th kernel.Theorem, build func(kernel.Theorem) kernel.Theorem) kernel.Theorem {
	conds, _ := term.Strip(th.Prop())
	x := th
	for _, c := range conds {
		x = derive.Elim(x, derive.Assume(g.world, c))
	}
	return derive.WithHyps(derive.Intro(conds, build(x)), th.Hyps())
}

// meta returns a == b from a theorem that Equal a b is true.
func (g *ground) meta(a, b api.Term, th kernel.Theorem) kernel.Theorem {
	typ, _ := term.TypeOf(a)
	return derive.Elim(g.library.With("eq_reflection", typ, hol.For("x", a), hol.For("y", b)), th)
}

// instance returns a theorem whose conclusion is that a function is true of a new variable, from one that it is of all.
func (g *ground) instance(th kernel.Theorem, f api.Term) kernel.Theorem {
	typ, _ := term.TypeOf(f)
	v := api.Term{Op: api.Var, Name: "x", Num: max(0, term.MaxIndex(th.Prop())+1), Type: typ.Args[0]}
	if f.Op == api.Abs && f.Name != "" {
		v.Name = f.Name
	}
	return g.under(th, func(x kernel.Theorem) kernel.Theorem {
		x = derive.Elim(g.library.With("spec", v.Type, hol.For("P", f), hol.For("x", v)), x)
		if f.Op != api.Abs {
			return x
		}
		trueprop := derive.Must(g.world.Reflexive(x.Prop().Kids[0]))
		return derive.Must(kernel.EqElim(derive.Must(kernel.Combination(trueprop, g.Beta(x.Prop().Kids[1]).Th)), x))
	})
}

// cong returns the congruence rule that a theorem means, or leaves with ErrRule.
func (g *ground) cong(th kernel.Theorem) kernel.Theorem {
	premises, concl := term.Strip(th.Prop())
	a, b, ok := isEqual(concl)
	if !ok {
		panic(ErrRule)
	}
	r := derive.Limited(func() kernel.Theorem { return g.madeCong(th, premises, a, b) })
	if _, ok := asCongruence(r); !ok {
		panic(ErrRule)
	}
	return r
}

// madeCong returns a theorem with == in the place of Equal in its conclusion, which is of two terms, and in those of its premises.
func (g *ground) madeCong(th kernel.Theorem, premises []api.Term, a, b api.Term) kernel.Theorem {
	x := th
	var news []api.Term
	for _, d := range premises {
		conds, c := term.Strip(d)
		l, r, ok := isEqual(c)
		if !ok {
			news = append(news, d)
			x = derive.Elim(x, derive.Assume(g.world, d))
			continue
		}
		eq := derive.Want(term.Eq(l, r))
		for i := len(conds) - 1; i >= 0; i-- {
			eq = term.Imp(conds[i], eq)
		}
		news = append(news, eq)
		y := derive.Assume(g.world, eq)
		for _, c := range conds {
			y = derive.Elim(y, derive.Assume(g.world, c))
		}
		typ, _ := term.TypeOf(l)
		y = derive.Elim(g.library.With("meta_eq", typ, hol.For("x", l), hol.For("y", r)), y)
		x = derive.Elim(x, derive.Intro(conds, y))
	}
	return derive.WithHyps(derive.Intro(news, g.meta(a, b, x)), th.Hyps())
}

// isEqual returns the two sides of a proposition that HOL's Equal is true.
func isEqual(t api.Term) (a, b api.Term, ok bool) {
	p, ok := hol.Untruth(t)
	if !ok {
		return api.Term{}, api.Term{}, false
	}
	k, args := kindOf(p)
	if k != equality {
		return api.Term{}, api.Term{}, false
	}
	return args[0], args[1], true
}
