package arith

import (
	"slices"

	"triforium/api"
)

// maxOfLine is the greatest number of a line, in absolute value.
const maxOfLine = 1000000000000

// isWithin reports whether numbers are from -most to most.
func isWithin(most int, l ...int) bool {
	return !slices.ContainsFunc(l, func(n int) bool { return n < -most || n > most })
}

// wantRight looks whether rows are right, and returns how many unknowns they have.
func wantRight(rows []Row) int {
	if len(rows) > MaxRows {
		panic(api.ErrCount)
	}
	n := 0
	for _, r := range rows {
		if len(r.Coeffs) > MaxUnknowns {
			panic(api.ErrCount)
		}
		if !isWithin(MaxNumber, r.Coeffs...) || !isWithin(MaxNumber, r.Bound) {
			panic(api.ErrRange)
		}
		n = max(n, len(r.Coeffs))
	}
	return n
}

// lines returns the rows that the lines of a certificate make of rows with so many unknowns.
func lines(rows []Row, unknowns int, l []Line) []Row {
	var made []Row
	for i, x := range l {
		if !x.isRight(i, len(rows), unknowns) {
			panic(ErrCertificate)
		}
		made = append(made, x.row(rows, made, unknowns))
	}
	return made
}

// isRight reports whether a line with an index is as it should be, as far as it tells by itself.
func (x Line) isRight(i, rows, unknowns int) bool {
	from := func(n, low, high int) bool { return n >= low && n <= high }
	switch x.Kind {
	case Given:
		return x == Line{Kind: Given, A: x.A} && from(x.A, 0, rows-1)
	case Natural:
		return x == Line{Kind: Natural, A: x.A} && from(x.A, 0, unknowns-1)
	case Sum:
		return from(x.A, 0, i-1) && from(x.B, 0, i-1) && from(x.M, 1, MaxNumber) && from(x.N, 1, MaxNumber)
	case Divided:
		return x == Line{Kind: Divided, A: x.A, M: x.M} && from(x.A, 0, i-1) && from(x.M, 1, MaxNumber)
	}
	return false
}

// row returns the row that a line makes of rows and of those of the lines ahead.
func (x Line) row(rows, made []Row, unknowns int) Row {
	r := Row{Coeffs: make([]int, unknowns)}
	switch x.Kind {
	case Given:
		copy(r.Coeffs, rows[x.A].Coeffs)
		r.Bound = rows[x.A].Bound
	case Natural:
		r.Coeffs[x.A] = -1
	case Sum:
		a, b := made[x.A], made[x.B]
		for i := range r.Coeffs {
			r.Coeffs[i] = x.M*a.Coeffs[i] + x.N*b.Coeffs[i]
		}
		r.Bound = x.M*a.Bound + x.N*b.Bound
	case Divided:
		for i, c := range made[x.A].Coeffs {
			if c%x.M != 0 {
				panic(ErrCertificate)
			}
			r.Coeffs[i] = c / x.M
		}
		r.Bound = floor(made[x.A].Bound, x.M)
	}
	if !isWithin(maxOfLine, r.Coeffs...) || !isWithin(maxOfLine, r.Bound) {
		panic(api.ErrLarge)
	}
	return r
}

// floor returns a quotient, rounded to the next lesser number.
func floor(a, b int) int {
	q := a / b
	if a%b != 0 && a < 0 {
		q--
	}
	return q
}

// isWrong reports whether a row says that 0 is at most a number below 0.
func isWrong(r Row) bool { return isZero(r.Coeffs) && r.Bound < 0 }

// isZero reports whether all numbers are the zero value.
func isZero[T comparable](l []T) bool {
	var zero T
	return !slices.ContainsFunc(l, func(x T) bool { return x != zero })
}
