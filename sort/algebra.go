package sort

import (
	"iter"
	"slices"
	"strings"

	"triforium/api"
)

// Algebra is what a theory without an error says of classes, sorts and type constructors.
// It is made once for many questions, which then need not check the theory again.
type Algebra struct {
	names  []string       // of the classes
	index  map[string]int // of a class, by its name
	supers [][]int
	above  []classSet
	types  []api.TypeDecl
	takes  map[string]int // the number of arguments of a type constructor
	sorts  map[place][][]string
}

// place is a type constructor and a class: it has one arity at most.
type place struct{ constructor, class string }

// classSet is a set of indices of classes.
type classSet [(api.MaxItems + 63) / 64]uint64

func (s *classSet) add(i int)      { s[i/64] |= 1 << (i % 64) }
func (s *classSet) has(i int) bool { return s[i/64]>>(i%64)&1 == 1 }

// upward yields the classes above one, each once.
func (a Algebra) upward(class int) iter.Seq[int] {
	return func(yield func(int) bool) {
		work, seen := []int{class}, classSet{}
		seen.add(class)
		for len(work) > 0 {
			next := work[len(work)-1]
			work = work[:len(work)-1]
			if !yield(next) {
				return
			}
			for _, s := range a.supers[next] {
				if !seen.has(s) {
					seen.add(s)
					work = append(work, s)
				}
			}
		}
	}
}

// Has reports whether a class exists.
func (a Algebra) Has(class string) bool {
	_, ok := a.index[class]
	return ok
}

// Takes returns how many arguments a type constructor takes, if it exists.
func (a Algebra) Takes(constructor string) (int, bool) {
	n, ok := a.takes[constructor]
	return n, ok
}

// Below reports whether a class is another one, or below it; both exist.
func (a Algebra) Below(x, y string) bool {
	i, ok := a.index[x]
	j, is := a.index[y]
	return ok && is && a.above[i].has(j)
}

// Less reports whether a sort is within another one; all classes of both exist.
func (a Algebra) Less(x, y []string) bool {
	for _, c := range x {
		if !a.Has(c) {
			return false
		}
	}
	for _, c := range y {
		if !slices.ContainsFunc(x, func(d string) bool { return a.Below(d, c) }) {
			// a class that does not exist is above no other one
			return false
		}
	}
	return true
}

// least returns the least ones of classes that exist, ascending, however many they are.
func (a Algebra) least(s []string) []string {
	all := slices.Clone(s)
	slices.SortFunc(all, strings.Compare)
	all = slices.Compact(all)
	var r []string
	for _, c := range all {
		if !slices.ContainsFunc(all, func(d string) bool { return d != c && a.Below(d, c) }) {
			r = append(r, c)
		}
	}
	return r
}

// IsNormal reports whether a sort of classes that exist is normal.
func (a Algebra) IsNormal(s []string) bool {
	for i, c := range s {
		if i > 0 && s[i-1] >= c {
			return false
		}
		if slices.ContainsFunc(s, func(d string) bool { return d != c && a.Below(d, c) }) {
			return false
		}
	}
	return true
}

// Normal returns the least classes of a sort, ascending.
func (a Algebra) Normal(s []string) ([]string, api.Errno) {
	if len(s) > api.MaxSort {
		return nil, api.ErrCount
	}
	for _, c := range s {
		if !a.Has(c) {
			return nil, api.ErrMissing
		}
	}
	return a.least(s), api.OK
}

// Meet returns the sort of what has both sorts.
func (a Algebra) Meet(x, y []string) ([]string, api.Errno) {
	p, e := a.Normal(x)
	if e != api.OK {
		return nil, e
	}
	q, e := a.Normal(y)
	if e != api.OK {
		return nil, e
	}
	r := a.least(slices.Concat(p, q))
	if len(r) > api.MaxSort {
		return nil, api.ErrCount
	}
	return r, api.OK
}

// Sorts returns the greatest sorts of the arguments with which a type constructor has a sort, however many classes they have; false, if it cannot have it.
func (a Algebra) Sorts(constructor string, s []string) ([][]string, bool) {
	n, ok := a.takes[constructor]
	if !ok {
		return nil, false
	}
	all := make([][]string, n)
	for _, c := range s {
		l, ok := a.sorts[place{constructor, c}]
		if !ok {
			return nil, false
		}
		for i := range all {
			all[i] = append(all[i], l[i]...)
		}
	}
	for i := range all {
		all[i] = a.least(all[i])
	}
	return all, true
}

// Args returns the sorts that the arguments of a type constructor must have, so that the type has a sort.
func (a Algebra) Args(constructor string, s []string) ([][]string, api.Errno) {
	if _, ok := a.takes[constructor]; !ok {
		return nil, api.ErrMissing
	}
	l, e := a.Normal(s)
	if e != api.OK {
		return nil, e
	}
	sorts, ok := a.Sorts(constructor, l)
	if !ok {
		return nil, api.ErrSort
	}
	for _, x := range sorts {
		if len(x) > api.MaxSort {
			return nil, api.ErrCount
		}
	}
	return sorts, api.OK
}
