package simp

import (
	"iter"
	"slices"

	"triforium/api"
	"triforium/conv"
	"triforium/derive"
	"triforium/equate"
	"triforium/hol"
	"triforium/kernel"
	"triforium/pattern"
	"triforium/term"
	"triforium/theory"
	"triforium/types"
)

// ground is a theory that has HOL, opened for many rules.
type ground struct {
	*equate.Maker
	world     kernel.World
	signature term.Signature
	library   *hol.Library
}

// open returns the ground of a theory, or leaves with its error.
func open(thy api.Theory) *ground { return openWorld(derive.Want(kernel.Open(thy))) }

// openWorld returns the ground of a world.
func openWorld(w kernel.World) *ground {
	if !theory.Within(hol.HOL(), w.Theory()) {
		panic(api.ErrTheory)
	}
	return &ground{equate.New(w), w, w.Signature(), hol.Load(w)}
}

// isBool reports whether a type is bool.
func isBool(t api.Type) bool { return types.Equal(t, hol.BoolType()) }

// equation is a theorem of the form conditions ==> left == right.
type equation struct {
	th          kernel.Theorem
	conds       []api.Term
	left, right api.Term
	ordered     bool
}

// equation returns the equation that a theorem is, if it has the form of one.
func (g *ground) equation(th kernel.Theorem) (*equation, bool) {
	q := equation{th: th}
	var c api.Term
	q.conds, c = term.Strip(th.Prop())
	var ok bool
	if q.left, q.right, ok = term.IsEq(c); !ok || !isEquation(q.conds, q.left, q.right) {
		return nil, false
	}
	n := max(0, term.MaxIndex(q.left)+1, term.MaxIndex(q.right)+1)
	q.ordered = g.matches(term.Raise(q.left, n), q.right) && g.matches(term.Raise(q.right, n), q.left)
	return &q, true
}

// matches reports whether a pattern matches a term.
func (g *ground) matches(p, t api.Term) bool {
	_, e := pattern.MatchIn(g.signature, p, t)
	return e == api.OK
}

// isEquation reports whether conditions and two sides have the form of an equation.
func isEquation(conds []api.Term, l, r api.Term) bool {
	head, _ := term.Spine(l)
	if len(conds) > MaxConds || head.Op == api.Var || !hasVariables(l, r) {
		return false
	}
	for _, c := range conds {
		if _, ok := hol.Untruth(c); !ok || !hasVariables(l, c) {
			return false
		}
	}
	return true
}

// hasVariables reports whether a term has all schematic variables of another one, and all of its types.
func hasVariables(l, t api.Term) bool {
	return allIn(term.Vars(l), term.Vars(t), term.Equal) && allIn(schematicTypes(l), schematicTypes(t), types.Equal)
}

// allIn reports whether a list has all elements of another one.
func allIn[T any](l, other []T, equal func(a, b T) bool) bool {
	return !slices.ContainsFunc(other, func(x T) bool {
		return !slices.ContainsFunc(l, func(y T) bool { return equal(x, y) })
	})
}

// schematicTypes returns the schematic type variables of a term.
func schematicTypes(t api.Term) []api.Type {
	return slices.DeleteFunc(term.TypeVariables(t), func(v api.Type) bool { return v.Op != api.TVar })
}

// isSchematic reports whether a term has a variable, or a type variable, that is schematic.
func isSchematic(t api.Term) bool { return len(term.Vars(t)) > 0 || len(schematicTypes(t)) > 0 }

// congruence is a theorem premises ==> name from == name to, where from and to are variables.
type congruence struct {
	th       kernel.Theorem
	name     string
	left     api.Term
	from, to []api.Term
	parts    []part
}

// part is a premise conditions ==> from == to of a congruence rule, with the index of its variables.
type part struct {
	conds []api.Term
	at    int
}

// congruence returns the congruence rule that a theorem is, if it has the form of one.
func asCongruence(th kernel.Theorem) (*congruence, bool) {
	premises, concl := term.Strip(th.Prop())
	l, r, ok := term.IsEq(concl)
	if !ok {
		return nil, false
	}
	c := congruence{th: th, left: l}
	f, from := term.Spine(l)
	g, to := term.Spine(r)
	c.name, c.from, c.to = f.Name, from, to
	if f.Op != api.Const || !term.Equal(f, g) || len(from) < 1 || len(from) > MaxConds || len(from) != len(to) || !c.different() {
		return nil, false
	}
	if !allIn(schematicTypes(l), schematicTypes(th.Prop()), types.Equal) {
		return nil, false
	}
	for _, d := range premises {
		if !c.add(d) {
			return nil, false
		}
	}
	for i := range c.from {
		if !c.keeps(i) && !c.has(i) {
			return nil, false
		}
	}
	return &c, true
}

// keeps reports whether an argument stays.
func (c *congruence) keeps(i int) bool { return term.Equal(c.from[i], c.to[i]) }

// has reports whether an argument has a premise.
func (c *congruence) has(i int) bool {
	return slices.ContainsFunc(c.parts, func(p part) bool { return p.at == i })
}

// different reports whether the arguments of both sides are variables as a congruence rule has them.
func (c *congruence) different() bool {
	var seen []api.Term
	for x := range c.variables() {
		if x.Op != api.Var || slices.ContainsFunc(seen, func(y api.Term) bool { return y.Name == x.Name && y.Num == x.Num }) {
			return false
		}
		seen = append(seen, x)
	}
	return true
}

// variables yields the arguments of the left side, and those of the right side that do not stay.
func (c *congruence) variables() iter.Seq[api.Term] {
	return func(yield func(api.Term) bool) {
		for _, x := range c.from {
			if !yield(x) {
				return
			}
		}
		for i, y := range c.to {
			if !c.keeps(i) && !yield(y) {
				return
			}
		}
	}
}

// add adds a premise, if it is one of a congruence rule.
func (c *congruence) add(d api.Term) bool {
	conds, concl := term.Strip(d)
	x, y, ok := term.IsEq(concl)
	if !ok {
		return false
	}
	at := slices.IndexFunc(c.from, func(v api.Term) bool { return term.Equal(v, x) })
	if at < 0 || c.keeps(at) || !term.Equal(c.to[at], y) || c.has(at) {
		return false
	}
	known := slices.Clone(c.from)
	for _, p := range c.parts {
		known = append(known, c.to[p.at])
	}
	for _, e := range conds {
		if _, ok := hol.Untruth(e); !ok || !allIn(known, term.Vars(e), term.Equal) {
			return false
		}
	}
	c.parts = append(c.parts, part{conds, at})
	return true
}

// procedure is a Proc that has no error.
type procedure struct {
	pattern api.Term
	conv    conv.Conv
}

// procFuel is the fuel of the conversion of a procedure.
const procFuel = 100

// simplifier returns the simplifier of a set, or leaves with its error.
func (g *ground) simplifier(s Set) *simplifier {
	if len(s.Rules) > MaxRules || len(s.Congs) > MaxRules || len(s.Procs) > MaxRules {
		panic(api.ErrCount)
	}
	m := simplifier{
		ground: g, mentioned: map[string]bool{},
		rules: chosen(g, s.Rules, g.equation), congs: chosen(g, s.Congs, asCongruence),
	}
	for _, p := range s.Procs {
		derive.Want(g.signature.Check(p.Pattern))
		m.procs = append(m.procs, procedure{p.Pattern, derive.Want(conv.MakeIn(g.world, p.Rules, p.Expr, procFuel))})
	}
	m.takeSet(s)
	return &m
}

// chosen returns what theorems are that have to be of a form.
func chosen[T any](g *ground, l []kernel.Theorem, as func(kernel.Theorem) (T, bool)) []T {
	var r []T
	for _, th := range l {
		x, ok := as(derive.Must(g.world.Transfer(th)))
		if !ok {
			panic(ErrRule)
		}
		r = append(r, x)
	}
	return r
}
