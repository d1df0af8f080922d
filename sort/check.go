package sort

import (
	"slices"

	"triforium/api"
)

// Open returns the algebra of a theory, or the error of its classes, type constructors and arities.
func Open(t api.Theory) (Algebra, api.Errno) {
	a, e := openClasses(t.Classes)
	if e != api.OK {
		return Algebra{}, e
	}
	if e := a.addTypes(t.Types); e != api.OK {
		return Algebra{}, e
	}
	if e := a.addArities(t.Arities); e != api.OK {
		return Algebra{}, e
	}
	if !a.complete(t.Arities) {
		return Algebra{}, ErrRegular
	}
	return a, api.OK
}

// openClasses returns the algebra of classes alone, or their error.
func openClasses(l []api.Class) (Algebra, api.Errno) {
	if len(l) > api.MaxItems {
		return Algebra{}, api.ErrCount
	}
	a := Algebra{index: make(map[string]int, len(l))}
	for i, c := range l {
		if e := a.classError(c); e != api.OK {
			return Algebra{}, e
		}
		var supers []int
		for _, s := range c.Supers {
			supers = append(supers, a.index[s])
		}
		a.supers = append(a.supers, supers)
		a.names = append(a.names, c.Name)
		a.index[c.Name] = i
		var above classSet
		for j := range a.upward(i) {
			above.add(j)
		}
		a.above = append(a.above, above)
	}
	return a, api.OK
}

// classError returns the error of a class behind those that the algebra has.
func (a Algebra) classError(c api.Class) api.Errno {
	if !IsName(c.Name) {
		return ErrName
	}
	if a.Has(c.Name) {
		return api.ErrDuplicate
	}
	if len(c.Supers) > api.MaxSort {
		return api.ErrCount
	}
	for i, s := range c.Supers {
		if !a.Has(s) {
			return api.ErrMissing
		}
		if i > 0 && c.Supers[i-1] >= s {
			return api.ErrOrder
		}
	}
	return api.OK
}

// addTypes adds type constructors, or returns their error.
func (a *Algebra) addTypes(l []api.TypeDecl) api.Errno {
	if len(l) > api.MaxItems {
		return api.ErrCount
	}
	a.takes = make(map[string]int, len(l))
	for _, d := range l {
		if !IsName(d.Name) {
			return ErrName
		}
		if _, ok := a.takes[d.Name]; ok {
			return api.ErrDuplicate
		}
		if d.Arity < 0 || d.Arity > maxArity {
			return api.ErrRange
		}
		a.takes[d.Name] = d.Arity
	}
	a.types = slices.Clone(l)
	return api.OK
}

// maxArity is the greatest number of arguments of a type constructor.
const maxArity = 10

// addArities adds arities, or returns the error of one of them.
func (a *Algebra) addArities(l []api.Arity) api.Errno {
	if len(l) > api.MaxItems {
		return api.ErrCount
	}
	a.sorts = make(map[place][][]string, len(l))
	for _, x := range l {
		if e := a.arityError(x); e != api.OK {
			return e
		}
		sorts := make([][]string, 0, len(x.Sorts))
		for _, s := range x.Sorts {
			sorts = append(sorts, slices.Clone(s))
		}
		a.sorts[place{x.Type, x.Class}] = sorts
	}
	return api.OK
}

// arityError returns the error of an arity behind those that the algebra has.
func (a Algebra) arityError(x api.Arity) api.Errno {
	n, ok := a.takes[x.Type]
	if !ok || !a.Has(x.Class) {
		return api.ErrMissing
	}
	if _, ok := a.sorts[place{x.Type, x.Class}]; ok {
		return api.ErrDuplicate
	}
	if len(x.Sorts) != n {
		return api.ErrCount
	}
	for _, s := range x.Sorts {
		if len(s) > api.MaxSort {
			return api.ErrCount
		}
		for _, c := range s {
			if !a.Has(c) {
				return api.ErrMissing
			}
		}
		if !a.IsNormal(s) {
			return api.ErrSort
		}
	}
	return api.OK
}

// complete reports whether each arity has, for each class above its own one, another one that asks for no more.
func (a Algebra) complete(l []api.Arity) bool {
	for _, x := range l {
		for d := range a.upward(a.index[x.Class]) {
			other, ok := a.sorts[place{x.Type, a.names[d]}]
			if !ok {
				return false
			}
			for i, s := range x.Sorts {
				if !a.Less(s, other[i]) {
					return false
				}
			}
		}
	}
	return true
}
