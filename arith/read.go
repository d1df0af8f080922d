package arith

import (
	"triforium/api"
	"triforium/hol"
	"triforium/term"
	"triforium/types"
)

// reading is what formulas mean: rows, and the terms that are their unknowns.
type reading struct {
	rows     []Row
	unknowns []api.Term
}

// reader reads formulas. It is left with ErrLinear by a panic.
type reader struct {
	unknowns []api.Term // at most one more than there may be
	rows     []Row      // at most one more than there may be
	large    bool       // a number was too large
}

// sum is what a natural term means; the number behind the coefficients is the last one.
type sum [MaxUnknowns + 1]int

// read returns what formulas mean, or leaves with their error.
func read(l []api.Term) reading {
	if len(l) > MaxRows {
		panic(api.ErrCount)
	}
	var r reader
	for _, t := range l {
		typ, e := term.TypeOf(t)
		if e != api.OK {
			panic(e)
		}
		if !types.Equal(typ, hol.BoolType()) {
			panic(api.ErrType)
		}
		r.formula(t, false)
	}
	if len(r.rows) > MaxRows || len(r.unknowns) > MaxUnknowns {
		panic(api.ErrCount)
	}
	if r.large {
		panic(api.ErrLarge)
	}
	var x reading
	for _, row := range r.rows {
		x.rows = append(x.rows, Row{append([]int(nil), row.Coeffs[:len(r.unknowns)]...), row.Bound})
	}
	for _, t := range r.unknowns {
		x.unknowns = append(x.unknowns, term.Lift(t, 0))
	}
	return x
}

// formula reads a formula, or its negation.
func (r *reader) formula(t api.Term, negated bool) {
	name, args := connective(t)
	switch {
	case name == "Not":
		r.formula(args[0], !negated)
		return
	case name == "And" && !negated:
		r.formula(args[0], false)
		r.formula(args[1], false)
		return
	case name == "True" || name == "False":
		if (name == "True") == negated {
			r.add(sum{}, sum{}, -1)
		}
		return
	}
	if a, b, ok := relation(t, "le"); ok {
		r.compare(a, b, 0, negated)
	} else if a, b, ok := relation(t, "less"); ok {
		r.compare(a, b, -1, negated)
	} else if a, b, ok := relation(t, "Equal"); ok && !negated {
		x, y := r.sum(a), r.sum(b)
		r.add(x, y, 0)
		r.add(y, x, 0)
	} else {
		panic(ErrLinear)
	}
}

// connective returns the name and the arguments of a connective; nothing of another term.
func connective(t api.Term) (string, []api.Term) {
	if name, args, ok := hol.Connective(t); ok {
		return name, args
	}
	return "", nil
}

// compare reads that the difference of two terms is at most a number, or that it is not.
func (r *reader) compare(a, b api.Term, most int, negated bool) {
	x, y := r.sum(a), r.sum(b)
	if negated {
		r.add(y, x, -1-most)
		return
	}
	r.add(x, y, most)
}

// relation returns the arguments of a relation of natural numbers with a name.
func relation(t api.Term, name string) (a, b api.Term, ok bool) {
	n := hol.NatType()
	return operation(t, name, types.Fun(n, types.Fun(n, hol.BoolType())))
}

// operation returns the two arguments of a constant with a type.
func operation(t api.Term, name string, typ api.Type) (a, b api.Term, ok bool) {
	head, l := term.Spine(t)
	if head.Op != api.Const || head.Name != name || len(l) != 2 || !types.Equal(head.Type, typ) {
		return api.Term{}, api.Term{}, false
	}
	return l[0], l[1], true
}

// add adds the row that the difference of two sums is at most a number.
func (r *reader) add(a, b sum, most int) {
	row := Row{Coeffs: make([]int, MaxUnknowns)}
	for i := range row.Coeffs {
		row.Coeffs[i] = a[i] - b[i]
	}
	difference := a[MaxUnknowns] - b[MaxUnknowns]
	row.Bound = most - difference
	r.wantSmall(append([]int{row.Bound, difference}, row.Coeffs...)...)
	if len(r.rows) <= MaxRows {
		r.rows = append(r.rows, row)
	}
}

// wantSmall notes whether a number is too large.
func (r *reader) wantSmall(l ...int) {
	if !isWithin(MaxNumber, l...) {
		r.large = true
	}
}

// sum returns what a natural term means. What is too large is not exact: this is noted.
func (r *reader) sum(t api.Term) sum {
	s := r.meaning(t)
	r.wantSmall(s[:]...)
	for i := range s {
		s[i] = min(s[i], MaxNumber+1)
	}
	return s
}

// meaning is sum, where the numbers may become too large.
func (r *reader) meaning(t api.Term) sum {
	n := hol.NatType()
	two := types.Fun(n, types.Fun(n, n))
	if t.Op == api.Const && t.Name == "Zero" && types.Equal(t.Type, n) {
		return sum{}
	}
	if t.Op == api.App && t.Kids[0].Op == api.Const && t.Kids[0].Name == "Suc" && types.Equal(t.Kids[0].Type, types.Fun(n, n)) {
		s := r.sum(t.Kids[1])
		s[MaxUnknowns]++
		return s
	}
	if a, b, ok := operation(t, "plus", two); ok {
		x, y := r.sum(a), r.sum(b)
		for i := range x {
			x[i] += y[i]
		}
		return x
	}
	if a, b, ok := operation(t, "times", two); ok {
		if k, ok := hol.Number(a); ok {
			return r.multiple(k, b)
		}
		if k, ok := hol.Number(b); ok {
			return r.multiple(k, a)
		}
	}
	return r.unknown(t)
}

// multiple returns what a number times a term means.
func (r *reader) multiple(k int, t api.Term) sum {
	s := r.sum(t)
	for i := range s {
		s[i] *= k
	}
	return s
}

// unknown returns the sum that is an unknown.
func (r *reader) unknown(t api.Term) sum {
	i := hol.AtomIndex(r.unknowns, t)
	if i < 0 && len(r.unknowns) <= MaxUnknowns {
		i = len(r.unknowns)
		r.unknowns = append(r.unknowns, t)
	}
	var s sum
	if i >= 0 && i < MaxUnknowns {
		s[i] = 1
	}
	return s
}
