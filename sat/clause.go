package sat

import (
	"cmp"
	"math/bits"
	"slices"
)

// literal is an atom, or its negation, below 0.
type literal int

// atom returns the atom of a literal.
func (x literal) atom() int { return int(max(x, -x)) }

// packed is a clause as two sets of atoms.
type packed struct{ above, below uint64 }

// bit returns the set of an atom.
func bit(atom int) uint64 { return 1 << (atom - 1) }

// with returns the clause with a further literal.
func (c packed) with(x literal) packed {
	if x > 0 {
		c.above |= bit(x.atom())
	} else {
		c.below |= bit(x.atom())
	}
	return c
}

// packedAll returns right clauses as sets.
func packedAll(l []Clause) []packed {
	var r []packed
	for _, c := range l {
		var p packed
		for _, x := range c {
			p = p.with(literal(x))
		}
		r = append(r, p)
	}
	return r
}

// isEmpty reports whether a clause has no literal.
func (c packed) isEmpty() bool { return c == packed{} }

// clause returns the list of a clause's literals.
func (c packed) clause() Clause {
	r := Clause{}
	for s := c.above | c.below; s != 0; s &= s - 1 {
		n := bits.TrailingZeros64(s) + 1
		if c.below&bit(n) != 0 {
			n = -n
		}
		r = append(r, n)
	}
	return r
}

// resolvent returns the resolvent of two clauses by an atom, if there is one.
func resolvent(a, b packed, atom int) (packed, bool) {
	x := bit(atom)
	if a.above&x == 0 || b.below&x == 0 {
		return packed{}, false
	}
	r := packed{a.above&^x | b.above, a.below | b.below&^x}
	return r, r.above&r.below == 0
}

// resolvent returns what a step makes of clauses, if it may be made.
func (s Step) resolvent(l []packed) (packed, bool) {
	if s.A < 0 || s.A >= len(l) || s.B < 0 || s.B >= len(l) || s.Atom < 1 || s.Atom > MaxAtoms {
		return packed{}, false
	}
	return resolvent(l[s.A], l[s.B], s.Atom)
}

// right returns literals as a right clause; false, if an atom stands among them both ways.
func right[T ~int](l []T) (Clause, bool) {
	slices.SortFunc(l, func(x, y T) int { return cmp.Or(cmp.Compare(max(x, -x), max(y, -y)), cmp.Compare(x, y)) })
	r := Clause{}
	for i, x := range slices.Compact(l) {
		if i > 0 && r[i-1] == -int(x) {
			return nil, false
		}
		r = append(r, int(x))
	}
	return r, true
}
