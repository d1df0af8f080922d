package classical

import (
	"math/bits"

	"triforium/api"
	"triforium/hol"
	"triforium/term"
	"triforium/types"
)

// maxAtoms is how many atoms Tautology takes.
const maxAtoms = 12

// table has the value of a term for each list of values of the atoms: one bit for each list, in order.
type table [1 << maxAtoms / 64]uint64

// combined returns what a function makes of two tables.
func combined(a, b table, of func(x, y uint64) uint64) table {
	for i := range a {
		a[i] = of(a[i], b[i])
	}
	return a
}

// tableOf returns the table of a term that is no connective, the atom with an index of so many; the first atom changes slowest.
func tableOf(index, atoms int) table {
	var t table
	for i := range 1 << maxAtoms {
		if i>>(atoms-1-index)&1 == 1 {
			t[i/64] |= 1 << (i % 64)
		}
	}
	return t
}

// evaluate returns the table of a term over atoms.
func evaluate(t api.Term, atoms []api.Term, known []table) table {
	name, args, ok := hol.Connective(t)
	if !ok {
		return known[hol.AtomIndex(atoms, t)]
	}
	var l [2]table
	for i, a := range args {
		l[i] = evaluate(a, atoms, known)
	}
	return combined(l[0], l[1], func(x, y uint64) uint64 {
		switch name {
		case "True":
			return ^uint64(0)
		case "Not":
			return ^x
		case "And":
			return x & y
		case "Or":
			return x | y
		case "Implies":
			return ^x | y
		case "Equal":
			return ^(x ^ y)
		}
		return 0
	})
}

// Tautology reports whether a term of HOL's connectives over atoms is true for all values of these; otherwise with the atoms that are false for one of them.
func Tautology(t api.Term) (bool, []api.Term, api.Errno) {
	typ, e := term.TypeOf(t)
	if e != api.OK {
		return false, nil, e
	}
	if !types.Equal(typ, hol.BoolType()) {
		return false, nil, api.ErrType
	}
	atoms := hol.Atoms(t, maxAtoms)
	if len(atoms) > maxAtoms {
		return false, nil, api.ErrCount
	}
	var known []table
	for i := range atoms {
		known = append(known, tableOf(i, len(atoms)))
	}
	at := firstFalse(evaluate(t, atoms, known))
	if at >= 1<<len(atoms) {
		return true, nil, api.OK
	}
	var wrong []api.Term
	for i, a := range atoms {
		if at>>(len(atoms)-1-i)&1 == 0 {
			wrong = append(wrong, term.Lift(a, 0))
		}
	}
	return false, wrong, api.OK
}

// firstFalse returns the index of the first list of values for which a term is false; a number beyond all lists, if there is none.
func firstFalse(t table) int {
	for i, x := range t {
		if x != ^uint64(0) {
			return 64*i + bits.TrailingZeros64(^x)
		}
	}
	return 64 * len(t)
}
