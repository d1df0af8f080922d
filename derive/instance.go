package derive

import (
	"slices"

	"triforium/api"
	"triforium/kernel"
	"triforium/term"
	"triforium/types"
)

// Parts returns the hypotheses of a theorem, and then its proposition.
func Parts(th kernel.Theorem) []api.Term { return append(th.Hyps(), th.Prop()) }

// name names a variable of terms or types.
type name struct {
	name  string
	index int
}

// Variables returns the Vars and the TVars of a theorem, each once, in the order in which they occur.
func Variables(th kernel.Theorem) (vars []api.Term, typeVars []api.Type) {
	seen, seenTypes := map[name]bool{}, map[name]bool{}
	for _, t := range Parts(th) {
		for n := range term.Nodes(&t) {
			if v := (name{n.Name, n.Num}); n.Op == api.Var && !seen[v] {
				seen[v] = true
				vars = append(vars, *n)
			}
			for u := range types.Nodes(&n.Type) {
				if v := (name{u.Name, u.Index}); u.Op == api.TVar && !seenTypes[v] {
					seenTypes[v] = true
					typeVars = append(typeVars, *u)
				}
			}
		}
	}
	return vars, typeVars
}

// maxBinds is how many binds of a kind the kernel takes at once.
const maxBinds = 100

// Instance returns a theorem whose schematic variables have indices greater by a number, and of these what an instantiation binds. If there are variables in what it binds to, they have to be below the number.
func Instance(th kernel.Theorem, n int, i api.Inst) kernel.Theorem {
	vars, typeVars := Variables(th)
	if len(vars) <= maxBinds && len(typeVars) <= maxBinds {
		return instantiated(th, api.Inst{Types: boundTypes(typeVars, n, i), Terms: boundTerms(vars, n, i)})
	}
	slices.SortStableFunc(vars, func(a, b api.Term) int { return b.Num - a.Num })
	slices.SortStableFunc(typeVars, func(a, b api.Type) int { return b.Index - a.Index })
	for l := range slices.Chunk(boundTypes(typeVars, n, api.Inst{}), maxBinds) {
		th = instantiated(th, api.Inst{Types: l})
	}
	for l := range slices.Chunk(boundTerms(vars, n, api.Inst{}), maxBinds) {
		th = instantiated(th, api.Inst{Terms: l})
	}
	for l := range slices.Chunk(i.Types, maxBinds) {
		th = instantiated(th, api.Inst{Types: l})
	}
	for l := range slices.Chunk(i.Terms, maxBinds) {
		th = instantiated(th, api.Inst{Terms: l})
	}
	return th
}

// instantiated returns an instance of a theorem; without binds it is the theorem.
func instantiated(th kernel.Theorem, i api.Inst) kernel.Theorem {
	if len(i.Types)+len(i.Terms) == 0 {
		return th
	}
	return Must(kernel.Instantiate(i, th))
}

// boundTypes returns binds of type variables to what an instantiation binds the raised ones to, or to these.
func boundTypes(l []api.Type, n int, i api.Inst) []api.TypeBind {
	var r []api.TypeBind
	for _, v := range l {
		to := types.Apply(i.Types, types.Raise(v, n))
		if !types.Equal(to, v) {
			r = append(r, api.TypeBind{Name: v.Name, Index: v.Index, To: to})
		}
	}
	return r
}

// boundTerms returns such binds of variables.
func boundTerms(l []api.Term, n int, i api.Inst) []api.TermBind {
	var r []api.TermBind
	for _, v := range l {
		to := term.Apply(i, term.Raise(v, n))
		if to.Op != v.Op || to.Name != v.Name || to.Num != v.Num {
			r = append(r, api.TermBind{Name: v.Name, Index: v.Num, To: to})
		}
	}
	return r
}
