package theory

import (
	"slices"

	"triforium/api"
	"triforium/sort"
	"triforium/term"
	"triforium/types"
)

// opened is what a theory without an error says of terms, and its definitions. It shares memory with the theory.
type opened struct {
	signature   term.Signature
	declared    map[string]api.Type // the types of constants
	definitions []defined
	of          map[string][]int // the definitions of a constant
}

// defined is a definition. A special one has a constructor.
type defined struct {
	name        string // of the constant
	at          api.Type
	right       api.Term
	constructor string
}

// open returns what a theory says, or its error.
func open(t *api.Theory) (*opened, api.Errno) {
	if !sort.IsName(t.Name) {
		return nil, api.ErrForm
	}
	s, e := term.Open(*t)
	if e != api.OK {
		return nil, e
	}
	if e := oraclesError(t.Oracles); e != api.OK {
		return nil, e
	}
	if !Within(Pure(), *t) {
		return nil, api.ErrTheory
	}
	if len(t.Axioms) > api.MaxItems {
		return nil, api.ErrCount
	}
	o := opened{signature: s, declared: map[string]api.Type{}, of: map[string][]int{}}
	for _, c := range t.Consts {
		o.declared[c.Name] = c.Type
	}
	names := map[string]bool{}
	for i := range t.Axioms {
		if e := o.axiomError(&t.Axioms[i], names); e != api.OK {
			return nil, e
		}
		names[t.Axioms[i].Name] = true
	}
	if o.overlap() || o.circle() {
		return nil, ErrDefine
	}
	return &o, api.OK
}

// oraclesError returns the error of the oracles.
func oraclesError(l []string) api.Errno {
	if len(l) > api.MaxItems {
		return api.ErrCount
	}
	names := map[string]bool{}
	for _, n := range l {
		if !sort.IsName(n) {
			return api.ErrForm
		}
		if names[n] {
			return api.ErrDuplicate
		}
		names[n] = true
	}
	return api.OK
}

// axiomError returns the error of an axiom behind those with some names; a definition is kept.
func (o *opened) axiomError(a *api.Axiom, names map[string]bool) api.Errno {
	if !sort.IsName(a.Name) || a.Kind != api.Plain && a.Kind != api.Defining && a.Kind != api.TypeDef {
		return api.ErrForm
	}
	if names[a.Name] {
		return api.ErrDuplicate
	}
	t, e := o.signature.Check(a.Prop)
	if e != api.OK {
		return e
	}
	if !types.Equal(t, types.Prop()) {
		return api.ErrType
	}
	if hasFixed(&a.Prop) {
		return api.ErrForm
	}
	if a.Kind != api.Defining {
		return api.OK
	}
	d, ok := o.permitted(&a.Prop)
	if !ok {
		return ErrDefine
	}
	o.of[d.name] = append(o.of[d.name], len(o.definitions))
	o.definitions = append(o.definitions, d)
	return api.OK
}

// hasFixed reports whether a term has Frees or TFrees.
func hasFixed(t *api.Term) bool {
	for n := range term.Nodes(t) {
		if n.Op == api.Free {
			return true
		}
		for u := range types.Nodes(&n.Type) {
			if u.Op == api.TFree {
				return true
			}
		}
	}
	return false
}

// permitted returns the definition that a right proposition states, if it is permitted.
func (o *opened) permitted(prop *api.Term) (defined, bool) {
	left, right, ok := term.IsEq(*prop)
	if !ok || left.Op != api.Const || slices.Contains([]string{"imp", "all", "eq"}, left.Name) || len(term.Vars(right)) > 0 {
		return defined{}, false
	}
	known := types.Sorts{}
	known.Add(&left.Type)
	for _, v := range term.TypeVariables(right) {
		if !known.Has(&v) {
			return defined{}, false
		}
	}
	d := defined{name: left.Name, at: left.Type, right: right}
	if types.Equal(left.Type, o.declared[left.Name]) {
		return d, true
	}
	at, ok := o.instance(left.Name, left.Type)
	d.constructor = at.Name
	return d, ok && hasDifferentArgs(&at)
}

// instance returns what stands for the type variable of a constant in an instance of its declared type, if this has just one. Sorts play no part.
func (o *opened) instance(name string, t api.Type) (api.Type, bool) {
	declared := types.Apply(nil, o.declared[name])
	if len(types.Variables(declared)) != 1 {
		return api.Type{}, false
	}
	for n := range types.Nodes(&declared) {
		n.Sort = nil
	}
	l, e := types.MatchIn(o.signature.Algebra(), declared, t, nil)
	if e != api.OK || len(l) != 1 {
		return api.Type{}, false
	}
	return l[0].To, true
}

// hasDifferentArgs reports whether a type is a constructor, and its Args are TVars with different names and the index 0.
func hasDifferentArgs(t *api.Type) bool {
	if t.Op != api.TCon {
		return false
	}
	names := map[string]bool{}
	for _, a := range t.Args {
		if a.Op != api.TVar || a.Index != 0 || names[a.Name] {
			return false
		}
		names[a.Name] = true
	}
	return true
}

// meets reports whether a definition has a common instance with a use of its constant at a type, variables apart and without sorts.
// Any use is an instance of the declared type; and the TVars of a special definition, each of which occurs once, become whatever stands in their places.
func (o *opened) meets(d *defined, use api.Type) bool {
	if d.constructor == "" {
		return true
	}
	at, ok := o.instance(d.name, use)
	return !ok || at.Op == api.TVar || at.Name == d.constructor
}

// overlap reports whether two definitions of one constant have types with a common instance.
func (o *opened) overlap() bool {
	for _, l := range o.of {
		for i, k := range l {
			for _, j := range l[:i] {
				if o.meets(&o.definitions[j], o.definitions[k].at) {
					return true
				}
			}
		}
	}
	return false
}

// circle reports whether the definitions lead into a circle.
func (o *opened) circle() bool {
	const active, done = 1, 2
	marks := make([]int, len(o.definitions))
	var visit func(i int) bool
	visit = func(i int) bool {
		if marks[i] != 0 {
			return marks[i] == active
		}
		marks[i] = active
		if slices.ContainsFunc(o.leads(i), visit) {
			return true
		}
		marks[i] = done
		return false
	}
	for i := range o.definitions {
		if visit(i) {
			return true
		}
	}
	return false
}

// leads returns the definitions to which one leads.
func (o *opened) leads(from int) []int {
	d := &o.definitions[from]
	found := make([]bool, len(o.definitions))
	for n := range term.Nodes(&d.right) {
		if n.Op != api.Const || len(o.of[n.Name]) == 0 || o.smaller(d, n) {
			continue
		}
		for _, to := range o.of[n.Name] {
			found[to] = found[to] || o.meets(&o.definitions[to], n.Type)
		}
	}
	var l []int
	for i, ok := range found {
		if ok {
			l = append(l, i)
		}
	}
	return l
}

// smaller reports whether a use of a constant is one of its own in a special definition, at an argument of the constructor.
// The right side has no type variables but these arguments.
func (o *opened) smaller(d *defined, use *api.Term) bool {
	if use.Name != d.name || d.constructor == "" {
		return false
	}
	at, ok := o.instance(use.Name, use.Type)
	return ok && at.Op == api.TVar
}
