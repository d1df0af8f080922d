package theory

import (
	"iter"
	"maps"
	"slices"

	"triforium/api"
	"triforium/term"
	"triforium/types"
)

// The keys by which the parts of theories are told apart.
func classKey(x api.Class) string     { return x.Name }
func typeKey(x api.TypeDecl) string   { return x.Name }
func arityKey(x api.Arity) [2]string  { return [2]string{x.Type, x.Class} }
func constKey(x api.ConstDecl) string { return x.Name }
func axiomKey(x api.Axiom) string     { return x.Name }
func oracleKey(x string) string       { return x }

// Within reports whether all that a theory has stands in another one alike.
func Within(a, b api.Theory) bool {
	return listWithin(a.Classes, b.Classes, classKey, func(x, y api.Class) bool { return slices.Equal(x.Supers, y.Supers) }) &&
		listWithin(a.Types, b.Types, typeKey, func(x, y api.TypeDecl) bool { return x.Arity == y.Arity }) &&
		listWithin(a.Arities, b.Arities, arityKey, func(x, y api.Arity) bool {
			return slices.EqualFunc(x.Sorts, y.Sorts, slices.Equal[[]string])
		}) &&
		listWithin(a.Consts, b.Consts, constKey, func(x, y api.ConstDecl) bool { return types.Equal(x.Type, y.Type) }) &&
		listWithin(a.Axioms, b.Axioms, axiomKey, func(x, y api.Axiom) bool { return x.Kind == y.Kind && term.Equal(x.Prop, y.Prop) }) &&
		listWithin(a.Oracles, b.Oracles, oracleKey, func(x, y string) bool { return true })
}

// listWithin reports whether each element of a list has one in another list with its key that is equal.
func listWithin[T any, K comparable](a, b []T, key func(T) K, equal func(x, y T) bool) bool {
	at := positions(b, key)
	for _, x := range a {
		if !slices.ContainsFunc(at[key(x)], func(i int) bool { return equal(x, b[i]) }) {
			return false
		}
	}
	return true
}

// positions returns where the elements with each key stand: in theories that are not right there may be several.
func positions[T any, K comparable](l []T, key func(T) K) map[K][]int {
	at := make(map[K][]int, len(l))
	for i, x := range l {
		at[key(x)] = append(at[key(x)], i)
	}
	return at
}

// others returns the elements of a list whose keys another list does not have.
func others[T any, K comparable](l, there []T, key func(T) K) []T {
	known := maps.Collect(keys(there, key))
	var r []T
	for _, x := range l {
		if !known[key(x)] {
			r = append(r, x)
		}
	}
	return r
}

// keys yields the keys of a list, as those of a set.
func keys[T any, K comparable](l []T, key func(T) K) iter.Seq2[K, bool] {
	return func(yield func(K, bool) bool) {
		for _, x := range l {
			if !yield(key(x), true) {
				return
			}
		}
	}
}

// without returns what a theory has that another one has not, by names.
func without(t, there api.Theory) api.Theory {
	return api.Theory{
		Classes: others(t.Classes, there.Classes, classKey),
		Types:   others(t.Types, there.Types, typeKey),
		Arities: others(t.Arities, there.Arities, arityKey),
		Consts:  others(t.Consts, there.Consts, constKey),
		Axioms:  others(t.Axioms, there.Axioms, axiomKey),
		Oracles: others(t.Oracles, there.Oracles, oracleKey),
	}
}

// counts returns how many elements of each kind a theory has.
func counts(t api.Theory) [6]int {
	return [6]int{len(t.Classes), len(t.Types), len(t.Arities), len(t.Consts), len(t.Axioms), len(t.Oracles)}
}

// joined returns the theory with a name that has what two have, one behind the other. It shares memory with both.
func joined(name string, a, b api.Theory) api.Theory {
	return api.Theory{
		Name:    name,
		Classes: slices.Concat(a.Classes, b.Classes),
		Types:   slices.Concat(a.Types, b.Types),
		Arities: slices.Concat(a.Arities, b.Arities),
		Consts:  slices.Concat(a.Consts, b.Consts),
		Axioms:  slices.Concat(a.Axioms, b.Axioms),
		Oracles: slices.Concat(a.Oracles, b.Oracles),
	}
}

// Clone returns a theory in new memory.
func Clone(t api.Theory) api.Theory {
	r := joined(t.Name, t, api.Theory{})
	for i := range r.Classes {
		r.Classes[i].Supers = slices.Clone(r.Classes[i].Supers)
	}
	for i := range r.Arities {
		sorts := slices.Clone(r.Arities[i].Sorts)
		for k := range sorts {
			sorts[k] = slices.Clone(sorts[k])
		}
		r.Arities[i].Sorts = sorts
	}
	for i := range r.Consts {
		r.Consts[i].Type = types.Apply(nil, r.Consts[i].Type)
	}
	for i := range r.Axioms {
		r.Axioms[i] = cloneAxiom(r.Axioms[i])
	}
	return r
}

// cloneAxiom returns an axiom in new memory.
func cloneAxiom(a api.Axiom) api.Axiom {
	a.Prop = term.Lift(a.Prop, 0)
	return a
}
