package model

import (
	"triforium/api"
	"triforium/term"
	"triforium/theory"
	"triforium/types"
)

// opened is what a theory without an error says.
type opened struct {
	theory      *api.Theory
	signature   term.Signature
	declared    map[string]api.Type // the types of constants
	takes       map[string]int      // the numbers of arguments of type constructors
	known       map[string]bool     // the constants that are known
	definitions map[string][]definition
}

// definition is an axiom of the Kind Defining: a constant at a type is a term.
type definition struct {
	at    api.Type
	right api.Term
}

// openTheory returns what a theory says, or leaves, if it has an error.
func openTheory(thy *api.Theory) *opened {
	s, e := theory.Open(*thy)
	if e != api.OK {
		panic(api.ErrTheory)
	}
	o := &opened{
		theory: thy, signature: s, declared: map[string]api.Type{}, takes: map[string]int{},
		known: map[string]bool{}, definitions: map[string][]definition{},
	}
	for _, t := range thy.Types {
		o.takes[t.Name] = t.Arity
	}
	for _, c := range thy.Consts {
		o.declared[c.Name] = c.Type
		o.known[c.Name] = isKnown(c.Name, c.Type)
	}
	for _, a := range thy.Axioms {
		if a.Kind != api.Defining {
			continue
		}
		if left, right, ok := term.IsEq(a.Prop); ok {
			o.definitions[left.Name] = append(o.definitions[left.Name], definition{left.Type, right})
		}
	}
	return o
}

// isOpen reports whether a constant of the theory is neither known nor on the left side of a definition, so that a model has to say what it means.
func (o *opened) isOpen(name string) bool {
	return !o.known[name] && len(o.definitions[name]) == 0
}

// world is a theory and a model that is right for it.
type world struct {
	*opened
	kinds
	model    *Model
	carriers map[string]*Carrier
	meanings map[string]*Meaning
}

// prepare returns the world of a theory and a model, or leaves with the error of one of them.
func prepare(thy *api.Theory, m *Model) *world { return openTheory(thy).with(m) }

// with returns the world of a model, or leaves, if it is not right.
func (o *opened) with(m *Model) *world {
	w := &world{
		opened: o, kinds: kinds{at: map[string]kind{}}, model: m,
		carriers: map[string]*Carrier{}, meanings: map[string]*Meaning{},
	}
	for i := range m.Carriers {
		w.addCarrier(&m.Carriers[i])
	}
	want(len(m.Ground) <= MaxGround)
	for i := range m.Ground {
		w.wantGround(&m.Ground[i])
	}
	for i := range m.Meanings {
		w.addMeaning(&m.Meanings[i])
	}
	return w
}

// want leaves a model that is not right.
func want(ok bool) {
	if !ok {
		panic(ErrModel)
	}
}

// Limits of models.
const (
	maxCases = 20
	maxNodes = 50 // of a type
)

// isName reports whether a text is a name.
func isName(s string) bool {
	return types.Form(&api.Type{Op: api.TFree, Name: s}) == api.OK
}

// isBuiltIn reports whether a type constructor means the same in all models.
func isBuiltIn(name string) bool { return name == "fun" || name == "prop" || name == "bool" }

// addCarrier adds a carrier behind those that are there.
func (w *world) addCarrier(c *Carrier) {
	arity, ok := w.takes[c.Name]
	want(ok && !isBuiltIn(c.Name) && w.carriers[c.Name] == nil && len(c.Params) == arity)
	params := map[string]bool{}
	for _, p := range c.Params {
		want(isName(p) && !params[p])
		params[p] = true
	}
	want(len(c.Cases) >= 1 && len(c.Cases) <= maxCases)
	for _, fields := range c.Cases {
		want(len(fields) <= maxFields)
		for i := range fields {
			nodes := 0
			want(w.isMade(&fields[i], params, &nodes))
		}
	}
	w.carriers[c.Name] = c
}

// isMade reports whether a type is made of fun, prop, bool, the carriers that are there, and TFrees for params, with few nodes, which are counted.
func (w *world) isMade(t *api.Type, params map[string]bool, nodes *int) bool {
	*nodes++
	if *nodes > maxNodes || t.Index != 0 || len(t.Sort) != 0 {
		return false
	}
	if t.Op == api.TFree {
		return params[t.Name] && len(t.Args) == 0
	}
	if t.Op != api.TCon || w.carriers[t.Name] == nil && !isBuiltIn(t.Name) {
		return false
	}
	if arity, ok := w.takes[t.Name]; !ok || len(t.Args) != arity || t.Name == "bool" && arity != 0 {
		return false
	}
	for i := range t.Args {
		if !w.isMade(&t.Args[i], params, nodes) {
			return false
		}
	}
	return true
}

// wantGround looks whether a type is one over which type variables may range, and returns its kind.
func (w *world) wantGround(t *api.Type) kind {
	nodes := 0
	want(w.isMade(t, nil, &nodes))
	k := w.ground(t, nil)
	want(!w.tooLarge(k))
	return k
}

// addMeaning adds a meaning behind those that are there.
func (w *world) addMeaning(m *Meaning) {
	declared, ok := w.declared[m.Name]
	want(ok && w.isOpen(m.Name) && w.meanings[m.Name] == nil)
	if m.How == Table {
		want(m.Type == "" && m.Case == 0 && m.Field == 0)
		k := w.wantGround(&declared)
		want(m.Value >= 0 && m.Value < w.size(k))
	} else {
		want(m.How == Maker || m.How == Chooser || m.How == Part)
		c := w.carriers[m.Type]
		want(c != nil && m.Case >= 0 && m.Case < len(c.Cases) && m.Value == 0)
		want(m.How != Chooser || m.Case == 0)
		want(m.Field == 0 || m.How == Part)
		want(m.How != Part || m.Field >= 0 && m.Field < len(c.Cases[m.Case]))
		wanted := typeOfMeaning(m, c)
		want(renames{}.same(&declared, &wanted))
	}
	w.meanings[m.Name] = m
}

// typeOfMeaning returns the type that a constant with a meaning by a carrier has, with TFrees for its variables.
func typeOfMeaning(m *Meaning, c *Carrier) api.Type {
	whole := api.Type{Op: api.TCon, Name: c.Name}
	for _, p := range c.Params {
		whole.Args = append(whole.Args, api.Type{Op: api.TFree, Name: p})
	}
	result := api.Type{Op: api.TFree} // without a name: no Param is like it
	var l []api.Type
	switch m.How {
	case Maker:
		l = append(append(l, c.Cases[m.Case]...), whole)
	case Part:
		l = []api.Type{whole, c.Cases[m.Case][m.Field]}
	case Chooser:
		for _, fields := range c.Cases {
			f := append(append([]api.Type(nil), fields...), result)
			l = append(l, functions(f...))
		}
		l = append(l, whole, result)
	}
	return functions(l...)
}

// renames has the names that were taken for others, in both directions.
type renames struct{ to, from map[string]string }

// same reports whether a type is, but for the names of variables, another one, whose variables are TFrees.
func (r renames) same(t, other *api.Type) bool {
	if r.to == nil {
		r = renames{map[string]string{}, map[string]string{}}
	}
	if other.Op == api.TFree {
		if t.Op == api.TCon || len(t.Sort) > 0 {
			return false
		}
		if to, ok := r.to[t.Name]; ok {
			return to == other.Name
		}
		if _, ok := r.from[other.Name]; ok {
			return false
		}
		r.to[t.Name], r.from[other.Name] = other.Name, t.Name
		return true
	}
	if t.Op != other.Op || t.Name != other.Name || len(t.Args) != len(other.Args) {
		return false
	}
	for i := range t.Args {
		if !r.same(&t.Args[i], &other.Args[i]) {
			return false
		}
	}
	return true
}

// coversType reports whether each type constructor in a right type has a carrier.
func (w *world) coversType(t *api.Type) bool {
	for n := range types.Nodes(t) {
		if n.Op != api.TCon || n.Name == "fun" || n.Name == "prop" || n.Name == "bool" && len(n.Args) == 0 {
			continue
		}
		if w.carriers[n.Name] == nil {
			return false
		}
	}
	return true
}

// covers reports whether each type constructor in a right term has a carrier, and each constant a meaning; and so on in the definitions of constants, but of those that were seen.
func (w *world) covers(t *api.Term, seen map[string]bool) bool {
	for n := range term.Nodes(t) {
		if !w.coversType(&n.Type) {
			return false
		}
		if n.Op != api.Const || seen[n.Name] {
			continue
		}
		seen[n.Name] = true
		if w.isOpen(n.Name) && w.meanings[n.Name] == nil {
			return false
		}
		for i := range w.definitions[n.Name] {
			if !w.covers(&w.definitions[n.Name][i].right, seen) {
				return false
			}
		}
	}
	return true
}
