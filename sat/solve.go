package sat

import (
	"math/bits"

	"triforium/api"
)

// maxLearned is how many of the clauses that were made last are looked at, too.
const maxLearned = 300

// solver goes through values of the atoms. It is left with api.ErrFuel by a panic, if too many conflicts are met.
type solver struct {
	clauses  []packed // given, and made by steps
	given    int
	learned  []int // indices of clauses that were made
	steps    []Step
	fuel     int
	greatest int
	known    uint64 // atoms that have a value
	values   uint64 // the ones that are true
	empty    int    // the index of the empty clause
}

func newSolver(l []Clause, fuel int) *solver {
	s := solver{clauses: packedAll(l), given: len(l), fuel: fuel}
	for _, c := range s.clauses {
		s.greatest = max(s.greatest, bits.Len64(c.above|c.below))
	}
	return &s
}

// solve returns values that make the clauses hold; false, if there are none, and then the empty clause was made.
func (s *solver) solve() ([]bool, bool) {
	for i, c := range s.clauses {
		if c.isEmpty() {
			s.empty = i
			return nil, false
		}
	}
	i, ok := s.search()
	if !ok {
		s.empty = i
		return nil, false
	}
	if s.greatest == 0 {
		return nil, true
	}
	values := make([]bool, s.greatest+1)
	for n := 1; n <= s.greatest; n++ {
		values[n] = s.values&bit(n) != 0
	}
	return values, true
}

// holds reports whether a literal of a clause is true.
func (s *solver) holds(c packed) bool {
	return c.above&s.known&s.values != 0 || c.below&s.known&^s.values != 0
}

// open returns the atoms of a clause without values.
func (s *solver) open(c packed) uint64 { return (c.above | c.below) &^ s.known }

// set gives an atom a value.
func (s *solver) set(atom int, value bool) {
	s.known |= bit(atom)
	s.values &^= bit(atom)
	if value {
		s.values |= bit(atom)
	}
}

// each calls a function for the indices of the given clauses, and of those that were made last, as long as it returns true.
func (s *solver) each(f func(i int) bool) {
	for i := range s.given {
		if !f(i) {
			return
		}
	}
	for _, i := range s.learned {
		if !f(i) {
			return
		}
	}
}

// forced is an atom that has the value that alone makes a clause hold.
type forced struct{ atom, clause int }

// propagate gives atoms the values that clauses force; it returns these, and the index of a clause that cannot hold, if there is one.
func (s *solver) propagate() (l []forced, conflict int, ok bool) {
	for {
		found := forced{clause: -1}
		conflict = -1
		s.each(func(i int) bool {
			c := s.clauses[i]
			if s.holds(c) {
				return true
			}
			switch open := s.open(c); bits.OnesCount64(open) {
			case 0:
				conflict = i
				return false
			case 1:
				found = forced{bits.TrailingZeros64(open) + 1, i}
			}
			return true
		})
		if conflict >= 0 {
			return l, conflict, false
		}
		if found.clause < 0 {
			return l, 0, true
		}
		s.set(found.atom, s.clauses[found.clause].above&bit(found.atom) != 0)
		l = append(l, found)
	}
}

// search looks for values that make the clauses hold, which then are those of the solver; otherwise it returns the index of a clause that cannot hold with the values that were there.
func (s *solver) search() (conflict int, ok bool) {
	known, values := s.known, s.values
	defer func() {
		if !ok {
			s.known, s.values = known, values
		}
	}()
	l, conflict, ok := s.propagate()
	if !ok {
		if s.fuel == 0 {
			panic(api.ErrFuel)
		}
		s.fuel--
		return s.explained(l, conflict), false
	}
	x, ok := s.decision()
	if !ok {
		return 0, true
	}
	var failed [2]int
decisions:
	for k, y := range [2]literal{x, -x} {
		now, old := s.known, s.values
		s.set(y.atom(), y > 0)
		if conflict, ok = s.search(); ok {
			return 0, true
		}
		s.known, s.values = now, old
		failed[k] = conflict
		if (s.clauses[conflict].above|s.clauses[conflict].below)&bit(y.atom()) == 0 {
			break decisions // whatever the value is
		}
		if k == 1 {
			conflict = s.resolved(failed[0], failed[1], x.atom())
		}
	}
	return s.explained(l, conflict), false
}

// decision returns a literal of a clause that does not hold yet, of which the fewest atoms are open; false, if all clauses hold.
func (s *solver) decision() (literal, bool) {
	var best literal
	fewest := MaxAtoms + 1
	for _, c := range s.clauses[:s.given] {
		open := s.open(c)
		if n := bits.OnesCount64(open); s.holds(c) || n >= fewest {
			continue
		}
		fewest = bits.OnesCount64(open)
		best = literal(bits.TrailingZeros64(open) + 1)
		if c.below&bit(best.atom()) != 0 {
			best = -best
		}
	}
	return best, fewest <= MaxAtoms
}

// resolved makes the resolvent of two clauses by an atom, which stands in each of them in another way.
func (s *solver) resolved(a, b, atom int) int {
	if s.clauses[a].above&bit(atom) == 0 {
		a, b = b, a
	}
	c, _ := resolvent(s.clauses[a], s.clauses[b], atom)
	s.steps = append(s.steps, Step{a, b, atom})
	s.clauses = append(s.clauses, c)
	return len(s.clauses) - 1
}

// explained returns a clause that cannot hold with the values that were there ahead of those that were forced.
func (s *solver) explained(l []forced, conflict int) int {
	made := false
	for i := len(l) - 1; i >= 0; i-- {
		c := s.clauses[conflict]
		if (c.above|c.below)&bit(l[i].atom) != 0 {
			conflict = s.resolved(conflict, l[i].clause, l[i].atom)
			made = true
		}
	}
	if made {
		if len(s.learned) == maxLearned {
			s.learned = s.learned[1:]
		}
		s.learned = append(s.learned, conflict)
	}
	return conflict
}
