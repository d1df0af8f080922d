package hol

import (
	"triforium/api"
	"triforium/derive"
	"triforium/kernel"
	"triforium/term"
	"triforium/theory"
)

// Library has the axioms and derived rules of HOL and Nat as theorems of one world, each one proved when it is first asked for.
type Library struct {
	world  kernel.World
	consts map[string]api.Type
	lines  map[string]line
	rules  map[string]kernel.Theorem
	raises map[string]api.Term
}

// line is a rule as it is written.
type line struct {
	prop, proof string
	axiom       bool
	ofNat       bool
	hidden      bool // not a rule of the document
}

// Load returns the library of a world whose theory has HOL, or Nat.
func Load(w kernel.World) *Library {
	l := Library{w, constants(), map[string]line{}, map[string]kernel.Theorem{}, map[string]api.Term{}}
	// HOL has Pure's axioms, too, which no line states.
	for _, a := range theory.Pure().Axioms {
		l.lines[a.Name] = line{axiom: true}
	}
	for _, x := range []struct {
		text string
		line
	}{
		{holAxioms, line{axiom: true}}, {natAxioms, line{axiom: true, ofNat: true}},
		{holRules, line{}}, {natRules, line{ofNat: true}}, {holLemmas, line{hidden: true}}, {natLemmas, line{ofNat: true, hidden: true}},
	} {
		for name, y := range notations(x.text) {
			x.prop, x.proof = y[0], y[1]
			l.lines[name] = x.line
		}
	}
	return &l
}

// Rule returns a rule by its name: api.ErrMissing, if there is none, and otherwise the error of the kernel, if the world does not have its axioms.
func (l *Library) Rule(name string) (th kernel.Theorem, e api.Errno) {
	defer func() {
		if x := recover(); x != nil {
			th, e = kernel.Theorem{}, derive.Failure(x)
		}
	}()
	if x, ok := l.lines[name]; !ok || x.hidden {
		return kernel.Theorem{}, api.ErrMissing
	}
	return l.rule(name), api.OK
}

// rule returns a rule that there is.
func (l *Library) rule(name string) kernel.Theorem {
	if th, ok := l.rules[name]; ok {
		return th
	}
	x := l.lines[name]
	var th kernel.Theorem
	switch {
	case x.axiom:
		th = derive.Must(l.world.Axiom(name))
	case name == "meta_eq":
		th = l.metaEquation(x)
	default:
		th = newProver(l, x).proved(x.proof, l.prop(x))
	}
	l.rules[name] = th
	return th
}

// prop returns the proposition of a rule.
func (l *Library) prop(x line) api.Term {
	return newNotation(x.prop, x.ofNat, l.consts).prop(tokens(x.prop))
}

// raised returns what a rule that there is states, with the index 1 for all variables.
func (l *Library) raised(name string) api.Term {
	t, ok := l.raises[name]
	if !ok {
		t = term.Raise(l.rule(name).Prop(), 1)
		l.raises[name] = t
	}
	return t
}

// metaEquation returns the rule that terms are equal for HOL, if they are so for the kernel.
func (l *Library) metaEquation(x line) kernel.Theorem {
	from, _ := term.Strip(l.prop(x))
	a, _, _ := term.IsEq(from[0])
	same, _ := Equal(a, a)
	left := term.Apps(api.Term{Op: api.Const, Name: "Trueprop", Type: Truth(same).Kids[0].Type}, nil)
	truth := derive.Must(l.world.Reflexive(left))
	sides := derive.Must(kernel.Combination(derive.Must(l.world.Reflexive(same.Kids[0])), derive.Assume(l.world, from[0])))
	th := derive.Must(kernel.EqElim(derive.Must(kernel.Combination(truth, sides)), l.rule("refl")))
	return derive.Intro(from, th)
}

// With returns a rule that there is, in which terms stand for variables, and a type for the type variable 'a, if it is not zero. It leaves by a panic with the code of the kernel, where this does not let it be.
func (l *Library) With(name string, a api.Type, terms ...api.TermBind) kernel.Theorem {
	i := api.Inst{Terms: terms}
	if a.Op != 0 {
		i.Types = []api.TypeBind{{Name: "a", To: a}}
	}
	th := l.rule(name)
	if len(i.Types)+len(i.Terms) == 0 {
		return th
	}
	return derive.Must(kernel.Instantiate(i, th))
}

// For returns the bind of a rule's variable.
func For(name string, t api.Term) api.TermBind { return api.TermBind{Name: name, To: t} }
