// Package sort is layer 1: classes and sorts. See shared/doc/01-sort.md.
package sort

import "triforium/api"

// Codes of layer 1.
const (
	ErrName    api.Errno = 30 // a name that is none
	ErrRegular api.Errno = 31 // arities that are not complete for superclasses
)

// IsName reports whether a text is a name.
func IsName(s string) bool {
	if len(s) < 1 || len(s) > api.MaxName {
		return false
	}
	for i := range len(s) {
		if !starts(s[i]) && (i == 0 || !continues(s[i])) {
			return false
		}
	}
	return true
}

// starts reports whether a name may begin with a byte.
func starts(b byte) bool {
	return 'a' <= b && b <= 'z' || 'A' <= b && b <= 'Z' || b == '_'
}

// continues reports whether a name may have a byte behind its first one that it may not begin with.
func continues(b byte) bool {
	return '0' <= b && b <= '9' || b == '\'' || b == '.'
}

// Check returns the error of the classes, type constructors and arities of a theory.
func Check(t api.Theory) api.Errno {
	_, e := Open(t)
	return e
}

// Below reports whether a class is another one, or below it.
func Below(t api.Theory, a, b string) bool {
	x, e := openClasses(t.Classes)
	return e == api.OK && x.Below(a, b)
}

// Less reports whether a sort is within another one: whatever has the first one has the second one.
func Less(t api.Theory, a, b []string) bool {
	x, e := openClasses(t.Classes)
	return e == api.OK && x.Less(a, b)
}

// Normal returns the least classes of a sort, ascending.
func Normal(t api.Theory, s []string) ([]string, api.Errno) {
	x, e := openClasses(t.Classes)
	if e != api.OK {
		return nil, e
	}
	return x.Normal(s)
}

// Meet returns the sort of what has both sorts.
func Meet(t api.Theory, a, b []string) ([]string, api.Errno) {
	x, e := openClasses(t.Classes)
	if e != api.OK {
		return nil, e
	}
	return x.Meet(a, b)
}

// Args returns the sorts that the arguments of a type constructor must have, so that the type has a sort.
func Args(t api.Theory, name string, s []string) ([][]string, api.Errno) {
	x, e := Open(t)
	if e != api.OK {
		return nil, e
	}
	return x.Args(name, s)
}

// Ground returns the first type without variables that has a sort, up to a depth.
func Ground(t api.Theory, s []string, depth int) (api.Type, bool, api.Errno) {
	x, e := Open(t)
	if e != api.OK {
		return api.Type{}, false, e
	}
	l, e := x.Normal(s)
	if e != api.OK {
		return api.Type{}, false, e
	}
	if depth < 0 || depth > maxGround {
		return api.Type{}, false, api.ErrRange
	}
	g := grounds{algebra: x, found: map[wanted]api.Type{}, none: map[wanted]bool{}}
	r, ok := g.first(l, depth)
	if !ok {
		return api.Type{}, false, api.OK
	}
	return copied(r), true, api.OK
}
