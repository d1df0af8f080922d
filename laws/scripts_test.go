// Package laws tests what several layers promise together, on random scripts from fixed seeds.
package laws

import (
	"fmt"
	"math/rand"
	"slices"
	"testing"

	"triforium/api"
	"triforium/kernel"
	"triforium/term"
	"triforium/theory"
	"triforium/types"
)

func prop() api.Type { return types.Prop() }

func con(name string, args ...api.Type) api.Type {
	return api.Type{Op: api.TCon, Name: name, Args: args}
}

func fun(a, b api.Type) api.Type { return types.Fun(a, b) }

func tvar(name string, sort ...string) api.Type {
	return api.Type{Op: api.TVar, Name: name, Sort: sort}
}

func tfree(name string, sort ...string) api.Type {
	return api.Type{Op: api.TFree, Name: name, Sort: sort}
}

func constant(name string, t api.Type) api.Term {
	return api.Term{Op: api.Const, Name: name, Type: t}
}

func app(f api.Term, l ...api.Term) api.Term { return term.Apps(f, l) }

func abs(t api.Type, body api.Term) api.Term {
	return api.Term{Op: api.Abs, Name: "x", Type: t, Kids: []api.Term{body}}
}

func bound(n int) api.Term { return api.Term{Op: api.Bound, Num: n} }

func must[T any](x T, e api.Errno) T {
	if e != api.OK {
		panic(fmt.Sprint("error ", int(e)))
	}
	return x
}

// theories returns theories that are within each other, each one in the next one, and one that is not.
func theories() []api.Theory {
	n := con("nat")
	one := must(theory.Extend(theory.Pure(), "One", api.Theory{
		Classes: []api.Class{{Name: "c"}, {Name: "d", Supers: []string{"c"}}},
		Types:   []api.TypeDecl{{Name: "nat"}, {Name: "list", Arity: 1}},
		Arities: []api.Arity{{Type: "nat", Class: "c"}, {Type: "list", Class: "c", Sorts: [][]string{{"c"}}}},
		Consts: []api.ConstDecl{
			{Name: "zero", Type: n}, {Name: "suc", Type: fun(n, n)}, {Name: "nil", Type: con("list", tvar("a"))},
			{Name: "size", Type: fun(tvar("a", "c"), n)}, {Name: "even", Type: fun(n, prop())}, {Name: "no", Type: prop()},
		},
		Axioms: []api.Axiom{
			{Name: "even_zero", Prop: app(constant("even", fun(n, prop())), constant("zero", n))},
			{Name: "size_nil", Prop: must(term.Eq(app(constant("size", fun(con("list", tvar("b", "c")), n)), constant("nil", con("list", tvar("b", "c")))), constant("zero", n)))},
		},
		Oracles: []string{"trust", "guess"},
	}))
	two := must(theory.Define(one, "Two", "same", abs(tfree("a"), bound(0))))
	three := must(theory.Extend(two, "Three", api.Theory{
		Arities: []api.Arity{{Type: "nat", Class: "d"}},
		Axioms:  []api.Axiom{{Name: "no_no", Prop: must(schematicNo())}},
		Oracles: []string{"luck"},
	}))
	other := must(theory.Extend(one, "Other", api.Theory{Types: []api.TypeDecl{{Name: "other"}}}))
	return []api.Theory{theory.Pure(), one, two, three, other}
}

// schematicNo is the axiom no ==> ?A.
func schematicNo() (api.Term, api.Errno) {
	return term.Imp(constant("no", prop()), api.Term{Op: api.Var, Name: "A", Type: prop()}), api.OK
}

// maker makes random scripts of steps, most of which make a theorem.
type maker struct {
	r       *rand.Rand
	thys    []api.Theory
	base    []api.Type      // types of the theories that are used
	consts  []api.ConstDecl // constants that are used
	axioms  []string        // axioms that are used
	first   int             // the first theory that is used
	script  []kernel.Step
	results []kernel.Theorem
}

func (m *maker) pick(n int) int { return m.r.Intn(n) }

// typ returns a random type.
func (m *maker) typ(depth int) api.Type {
	n := m.pick(9)
	switch {
	case n < 3:
		return prop()
	case n == 3:
		return tfree("a")
	case n == 4:
		return tvar("a")
	case depth > 1 && n > 6:
		return fun(m.typ(depth-1), m.typ(depth-1))
	}
	return m.base[m.pick(len(m.base))]
}

// nameFor returns a name of variables that tells their type.
func nameFor(t api.Type) string {
	s, _ := types.Text(t)
	var b []byte
	for i := range len(s) {
		if s[i] >= 'a' && s[i] <= 'z' || s[i] >= '0' && s[i] <= '9' {
			b = append(b, s[i])
		} else {
			b = append(b, "_ABCDEFGHIJKLMNOP"[s[i]%17])
		}
	}
	if len(b) > 30 {
		b = append(b[:30], fmt.Sprint(len(s))...)
	}
	return "x" + string(b)
}

// term returns a random term of a type.
func (m *maker) term(t api.Type, around []api.Type, depth int) api.Term {
	var l []func() api.Term
	add := func(f func() api.Term) { l = append(l, f) }
	for i, u := range around {
		if types.Equal(u, t) {
			add(func() api.Term { return bound(len(around) - 1 - i) })
		}
	}
	add(func() api.Term {
		return api.Term{Op: api.Free, Name: []string{"", "y"}[m.pick(2)] + nameFor(t), Type: t}
	})
	add(func() api.Term { return api.Term{Op: api.Var, Name: nameFor(t), Num: m.pick(2), Type: t} })
	for _, c := range m.consts {
		if _, e := types.Match(m.thys[len(m.thys)-1], c.Type, t, nil); e == api.OK {
			add(func() api.Term { return constant(c.Name, t) })
		}
	}
	if depth > 1 {
		m.addLarger(add, t, around, depth)
	}
	return l[m.pick(len(l))]()
}

func (m *maker) addLarger(add func(func() api.Term), t api.Type, around []api.Type, depth int) {
	if args, _ := types.Strip(t); len(args) > 0 {
		for range 2 {
			add(func() api.Term {
				return abs(t.Args[0], m.term(t.Args[1], append(slices.Clone(around), t.Args[0]), depth-1))
			})
		}
	}
	add(func() api.Term {
		u := m.typ(2)
		return app(m.term(fun(u, t), around, depth-1), m.term(u, around, depth-1))
	})
	if !types.Equal(t, prop()) {
		return
	}
	for range 2 {
		add(func() api.Term { return term.Imp(m.term(t, around, depth-1), m.term(t, around, depth-1)) })
		add(func() api.Term {
			u := m.typ(2)
			body := m.term(t, append(slices.Clone(around), u), depth-1)
			return app(constant("all", fun(fun(u, t), t)), abs(u, body))
		})
		add(func() api.Term {
			u := m.typ(2)
			return app(constant("eq", fun(u, fun(u, t))), m.term(u, around, depth-1), m.term(u, around, depth-1))
		})
	}
}

// theorem returns the register of a theorem with a property, -1 without one.
func (m *maker) theorem(ok func(t kernel.Theorem) bool) int {
	for range 12 {
		if len(m.results) == 0 {
			return -1
		}
		i := m.pick(len(m.results))
		if m.results[i].Is() && ok(m.results[i]) {
			return i
		}
	}
	return -1
}

func whichever(kernel.Theorem) bool { return true }

func isImp(t kernel.Theorem) bool { _, _, ok := term.IsImp(t.Prop()); return ok }
func isEq(t kernel.Theorem) bool  { _, _, ok := term.IsEq(t.Prop()); return ok }
func isAll(t kernel.Theorem) bool { _, ok := term.IsAll(t.Prop()); return ok }

// add makes a step, and returns its register.
func (m *maker) add(s kernel.Step) int {
	m.script = append(m.script, s)
	l := kernel.Play(m.thys, m.script)
	m.results = append(m.results, l[len(l)-1].Theorem)
	return len(l) - 1
}

// step adds a random step, or a few of them.
func (m *maker) step() {
	s := kernel.Step{Rule: 1 + m.pick(kernel.LastRule), Theory: m.first + m.pick(len(m.thys)-m.first)}
	from := func(l ...int) bool {
		s.From = l
		return !slices.Contains(l, -1)
	}
	switch s.Rule {
	case api.ByAxiom:
		s.Name = m.axioms[m.pick(len(m.axioms))]
	case api.ByOracle, api.Assume:
		s.Name = []string{"trust", "guess", "luck"}[m.pick(3)]
		s.Term = m.term(prop(), nil, 1+m.pick(4))
	case api.Reflexive:
		s.Term = m.term(m.typ(2), nil, 1+m.pick(4))
	case api.Beta:
		u, v := m.typ(2), m.typ(2)
		s.Term = app(abs(u, m.term(v, []api.Type{u}, 3)), m.term(u, nil, 2))
	case api.Eta:
		u := m.typ(2)
		s.Term = abs(u, app(m.term(fun(u, m.typ(2)), nil, 3), bound(0)))
	default:
		if !m.stepOn(&s, from) {
			return
		}
	}
	m.add(s)
}

// stepOn chooses what a rule that takes theorems is given; false, if there is nothing.
func (m *maker) stepOn(s *kernel.Step, from func(...int) bool) bool {
	switch s.Rule {
	case api.ImpIntro:
		i := m.theorem(func(t kernel.Theorem) bool { return len(t.Hyps()) > 0 || m.pick(3) == 0 })
		s.Term = m.term(prop(), nil, 2)
		if i >= 0 && m.pick(5) > 0 {
			if h := m.results[i].Hyps(); len(h) > 0 {
				s.Term = h[m.pick(len(h))]
			}
		}
		return from(i)
	case api.AllIntro, api.Abstraction:
		i := m.theorem(func(t kernel.Theorem) bool { return s.Rule == api.AllIntro || isEq(t) })
		s.Term = m.term(m.typ(2), nil, 1)
		if i >= 0 {
			if l := term.Frees(m.results[i].Prop()); len(l) > 0 {
				s.Term = l[m.pick(len(l))]
			}
		}
		return from(i)
	case api.AllElim:
		i := m.theorem(isAll)
		if i >= 0 {
			a, _ := term.IsAll(m.results[i].Prop())
			s.Term = m.term(a.Type, nil, 1+m.pick(3))
		}
		return from(i)
	case api.ImpElim, api.EqElim:
		return m.elimination(s, from)
	case api.Symmetric:
		return from(m.theorem(isEq))
	case api.Transitive, api.Combination:
		return from(m.pair(s.Rule))
	case api.EqIntro:
		i := m.theorem(isImp)
		j := i
		if i >= 0 && m.pick(2) == 0 { // A ==> B and B ==> A
			a, b, _ := term.IsImp(m.results[i].Prop())
			k := m.add(kernel.Step{Rule: api.ByOracle, Name: "trust", Theory: m.first, Term: term.Imp(b, a)})
			j = k
		}
		return from(i, j)
	case api.Instantiate:
		i := m.theorem(func(t kernel.Theorem) bool { return len(term.Vars(t.Prop())) > 0 || m.pick(4) == 0 })
		if i >= 0 {
			s.Inst = m.inst(m.results[i])
		}
		return from(i)
	case api.Generalize:
		i := m.theorem(whichever)
		if i >= 0 {
			s.TypeNames, s.TermNames, s.Num = m.names(m.results[i])
		}
		return from(i)
	}
	return from(m.theorem(whichever))
}

// elimination chooses a theorem and one that is its premise, which may be assumed for this.
func (m *maker) elimination(s *kernel.Step, from func(...int) bool) bool {
	of := isImp
	if s.Rule == api.EqElim {
		of = func(t kernel.Theorem) bool {
			a, _, ok := term.IsEq(t.Prop())
			u, _ := term.TypeOf(a)
			return ok && types.Equal(u, prop())
		}
	}
	i := m.theorem(of)
	if i < 0 {
		return false
	}
	a, _, ok := term.IsImp(m.results[i].Prop())
	if s.Rule == api.EqElim {
		a, _, ok = term.IsEq(m.results[i].Prop())
	}
	j := m.theorem(func(t kernel.Theorem) bool { return ok && term.Equal(t.Prop(), a) })
	if j < 0 {
		j = m.add(kernel.Step{Rule: api.Assume, Term: a, Theory: m.first})
	}
	return from(i, j)
}

// pair chooses two equations that fit, mostly.
func (m *maker) pair(rule int) (int, int) {
	i := m.theorem(isEq)
	if i < 0 {
		return -1, -1
	}
	_, b, _ := term.IsEq(m.results[i].Prop())
	u, _ := term.TypeOf(b)
	j := m.theorem(func(t kernel.Theorem) bool {
		c, _, ok := term.IsEq(t.Prop())
		v, _ := term.TypeOf(c)
		return ok && (rule == api.Transitive && term.Equal(b, c) || rule == api.Combination && u.Name == "fun" && types.Equal(u.Args[0], v))
	})
	if j < 0 {
		x := b
		if rule == api.Combination {
			if u.Name != "fun" {
				return i, m.theorem(isEq)
			}
			x = m.term(u.Args[0], nil, 2)
		}
		j = m.add(kernel.Step{Rule: api.Reflexive, Term: x, Theory: m.first})
	}
	return i, j
}

// inst returns random binds for variables of a theorem.
func (m *maker) inst(t kernel.Theorem) api.Inst {
	var i api.Inst
	all := append(t.Hyps(), t.Prop())
	for _, x := range all {
		for _, v := range term.TypeVariables(x) {
			if v.Op == api.TVar && m.pick(2) == 0 && !slices.ContainsFunc(i.Types, func(b api.TypeBind) bool { return b.Name == v.Name && b.Index == v.Index }) {
				i.Types = append(i.Types, api.TypeBind{Name: v.Name, Index: v.Index, To: m.typ(2)})
			}
		}
	}
	for _, x := range all {
		for _, v := range term.Vars(x) {
			if m.pick(3) > 0 && !slices.ContainsFunc(i.Terms, func(b api.TermBind) bool { return b.Name == v.Name && b.Index == v.Num }) {
				i.Terms = append(i.Terms, api.TermBind{Name: v.Name, Index: v.Num, To: m.term(types.Apply(i.Types, v.Type), nil, 2)})
			}
		}
	}
	return i
}

// names returns random names and an index for Generalize.
func (m *maker) names(t kernel.Theorem) (typeNames, termNames []string, n int) {
	for _, v := range term.TypeVariables(t.Prop()) {
		if v.Op == api.TFree && m.pick(2) == 0 && !slices.Contains(typeNames, v.Name) {
			typeNames = append(typeNames, v.Name)
		}
	}
	for _, v := range term.Frees(t.Prop()) {
		if m.pick(2) == 0 && !slices.Contains(termNames, v.Name) {
			termNames = append(termNames, v.Name)
		}
	}
	return typeNames, termNames, m.pick(4)
}

// made has the scripts that were made, by their seeds and numbers of steps.
var made = map[[2]int64]*maker{}

// random returns a random script with its theories.
func random(seed int64, steps int) *maker {
	key := [2]int64{seed, int64(steps)}
	m := made[key]
	if m == nil {
		m = &maker{r: rand.New(rand.NewSource(seed)), thys: theories(), base: []api.Type{prop()}}
		m.axioms = []string{"protect_def", "even_zero", "size_nil", "same_def", "no_no"}
		if seed%3 != 0 {
			m.first = 1
			m.base = []api.Type{con("nat"), tvar("b", "c"), con("list", tfree("a")), con("nat"), con("list", tvar("b", "c"))}
			m.consts = m.thys[1].Consts
		}
		for range steps {
			m.step()
		}
		made[key] = m
	}
	again := *m
	again.r, again.thys, again.script = rand.New(rand.NewSource(seed)), theories(), slices.Clone(m.script)
	return &again
}

func TestScriptsAreRich(t *testing.T) {
	good := map[int]int{}
	failed := map[int]int{}
	for seed := range int64(60) {
		m := random(seed, 40)
		for i, s := range m.script {
			if m.results[i].Is() {
				good[s.Rule]++
			} else {
				failed[s.Rule]++
			}
		}
	}
	for rule := 1; rule <= kernel.LastRule; rule++ {
		t.Log(rule, good[rule], failed[rule])
		if good[rule] < 10 {
			t.Error("too few theorems by the rule", rule, good[rule], failed[rule])
		}
	}
}
