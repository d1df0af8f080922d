package checker

import (
	"slices"

	"triforium/api"
)

// arity names the arity of a type constructor for a class.
type arity struct{ constructor, class string }

// world is a theory without an error, by names.
type world struct {
	above   map[string]map[string]bool // the classes above a class, and itself
	takes   map[string]int             // the number of arguments of a type constructor
	arities map[arity][][]string
	consts  map[string]*api.Type
	axioms  map[string]*api.Term
	oracles []string
}

// newWorld returns the world of a theory, with which it shares memory.
func newWorld(thy *api.Theory) *world {
	w := &world{
		above: map[string]map[string]bool{}, takes: map[string]int{}, arities: map[arity][][]string{},
		consts: map[string]*api.Type{}, axioms: map[string]*api.Term{}, oracles: thy.Oracles,
	}
	for _, c := range thy.Classes {
		all := map[string]bool{c.Name: true}
		for _, s := range c.Supers { // these stand ahead of it
			for k := range w.above[s] {
				all[k] = true
			}
		}
		w.above[c.Name] = all
	}
	for _, t := range thy.Types {
		w.takes[t.Name] = t.Arity
	}
	for _, a := range thy.Arities {
		w.arities[arity{a.Type, a.Class}] = a.Sorts
	}
	for i := range thy.Consts {
		w.consts[thy.Consts[i].Name] = &thy.Consts[i].Type
	}
	for i := range thy.Axioms {
		w.axioms[thy.Axioms[i].Name] = &thy.Axioms[i].Prop
	}
	return w
}

// isName reports whether a text is a name.
func isName(s string) bool {
	if s == "" || len(s) > api.MaxName {
		return false
	}
	for i := range len(s) {
		c := s[i]
		letter := c >= 'a' && c <= 'z' || c >= 'A' && c <= 'Z' || c == '_'
		other := c >= '0' && c <= '9' || c == '\'' || c == '.'
		if !letter && (i == 0 || !other) {
			return false
		}
	}
	return true
}

// isSort reports whether a list of classes is a normal sort.
func (w *world) isSort(s []string) bool {
	for i, c := range s {
		if w.above[c] == nil || i > 0 && s[i-1] >= c {
			return false
		}
		for _, d := range s {
			if d != c && w.above[d][c] {
				return false
			}
		}
	}
	return len(s) <= api.MaxSort
}

// isWithin reports whether what has a sort has each class of another one.
func (w *world) isWithin(s, other []string) bool {
	for _, c := range other {
		if !slices.ContainsFunc(s, func(d string) bool { return w.above[d][c] }) {
			return false
		}
	}
	return true
}

// hasSort reports whether a type has all of some classes.
func (w *world) hasSort(t *api.Type, s []string) bool {
	if t.Op != api.TCon {
		return w.isWithin(t.Sort, s)
	}
	asked := make([][]string, len(t.Args)) // of each argument, all at once: there can be many ways to the same class
	for _, c := range s {
		sorts, ok := w.arities[arity{t.Name, c}]
		if !ok {
			return false
		}
		for i := range asked {
			for _, d := range sorts[i] {
				if !slices.Contains(asked[i], d) {
					asked[i] = append(asked[i], d)
				}
			}
		}
	}
	for i := range asked {
		if !w.hasSort(&t.Args[i], asked[i]) {
			return false
		}
	}
	return true
}

// maxIndex is the greatest index of a schematic variable.
const maxIndex = 1000000

// rightType wants a type to be right.
func (w *world) rightType(t *api.Type) {
	want(fitsType(t, api.MaxType))
	vars := variables{}
	w.typeNodes(t, vars)
}

// typeNodes wants the nodes of a type to be right, and each variable to have one sort.
func (w *world) typeNodes(t *api.Type, vars variables) {
	want(isName(t.Name))
	switch t.Op {
	case api.TCon:
		takes, ok := w.takes[t.Name]
		want(ok && takes == len(t.Args) && t.Index == 0 && len(t.Sort) == 0)
	case api.TFree:
		want(t.Index == 0 && len(t.Args) == 0 && w.isSort(t.Sort))
	case api.TVar:
		want(t.Index >= 0 && t.Index <= maxIndex && len(t.Args) == 0 && w.isSort(t.Sort))
	default:
		wrong()
	}
	vars.addTypeNode(t)
	for i := range t.Args {
		w.typeNodes(&t.Args[i], vars)
	}
}

// fitsType reports whether a type has at most a number of nodes, and not too many within each other.
func fitsType(t *api.Type, most int) bool {
	var fits func(t *api.Type, depth int) bool
	fits = func(t *api.Type, depth int) bool {
		most--
		if most < 0 || depth > api.MaxDepth {
			return false
		}
		for i := range t.Args {
			if !fits(&t.Args[i], depth+1) {
				return false
			}
		}
		return true
	}
	return fits(t, 1)
}

// isInstance reports whether a type is an instance of another one, by types for its schematic variables, which are collected.
func (w *world) isInstance(t, general *api.Type, by map[string]*api.Type) bool {
	if general.Op == api.TVar { // of a constant: all with the index 0
		if old, ok := by[general.Name]; ok {
			return sameType(old, t)
		}
		by[general.Name] = t
		return w.hasSort(t, general.Sort)
	}
	if t.Op != general.Op || t.Name != general.Name || len(t.Args) != len(general.Args) {
		return false
	}
	for i := range t.Args {
		if !w.isInstance(&t.Args[i], &general.Args[i], by) {
			return false
		}
	}
	return true
}
