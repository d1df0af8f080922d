package arith

import (
	"iter"
	"slices"

	"triforium/api"
)

// key is what tells rows with the same coefficients.
type key [MaxUnknowns]int

// eliminator makes lines, and has the rows that are left to look at. It is left with a panic: with api.ErrFuel for too many lines, with api.ErrLarge for numbers that are too large.
type eliminator struct {
	given    []Row
	unknowns int
	lines    []Line
	rows     []Row // of the lines
	best     map[key]int
	order    []key // of best
	wrong    bool  // the last line is a contradiction
}

// add makes a line, and returns its index.
func (e *eliminator) add(l Line) int {
	if len(e.lines) == MaxLines {
		panic(api.ErrFuel)
	}
	if l.M > MaxNumber || l.N > MaxNumber {
		panic(api.ErrLarge)
	}
	e.rows = append(e.rows, l.row(e.given, e.rows, e.unknowns))
	e.lines = append(e.lines, l)
	return len(e.lines) - 1
}

// keep makes a line, divides it as far as possible, and keeps it, if none is kept that says more.
func (e *eliminator) keep(l Line) {
	i := e.add(l)
	if g := divisor(e.rows[i].Coeffs); g > 1 && g <= MaxNumber {
		i = e.add(Line{Kind: Divided, A: i, M: g})
	}
	r := e.rows[i]
	e.wrong = isWrong(r)
	if isZero(r.Coeffs) {
		return
	}
	var k key
	copy(k[:], r.Coeffs)
	old, ok := e.best[k]
	if !ok {
		e.order = append(e.order, k)
	}
	if !ok || r.Bound < e.rows[old].Bound {
		e.best[k] = i
	}
}

// divisor returns the greatest number that divides all numbers, 0 if all are 0.
func divisor(l []int) int {
	var gcd func(a, b int) int
	gcd = func(a, b int) int {
		if b == 0 {
			return a
		}
		return gcd(b, a%b)
	}
	g := 0
	for _, n := range l {
		g = gcd(g, max(n, -n))
	}
	return g
}

// signs returns the lines that are kept with a coefficient of an unknown above 0, and those with one below 0.
func (e *eliminator) signs(x int) (above, below []int) {
	for _, k := range e.order {
		switch i := e.best[k]; {
		case k[x] > 0:
			above = append(above, i)
		case k[x] < 0:
			below = append(below, i)
		}
	}
	return above, below
}

// next returns the unknown of which the fewest lines come, and whether there is one.
func (e *eliminator) next() (int, bool) {
	best, count := -1, 0
	for x := range e.unknowns {
		above, below := e.signs(x)
		n := len(above) * len(below)
		if len(above)+len(below) > 0 && (best < 0 || n < count) {
			best, count = x, n
		}
	}
	return best, best >= 0
}

// pairs yields all pairs of two lists.
func pairs(a, b []int) iter.Seq2[int, int] {
	return func(yield func(int, int) bool) {
		for _, x := range a {
			for _, y := range b {
				if !yield(x, y) {
					return
				}
			}
		}
	}
}

// eliminate adds lines in which an unknown does not stand any more, and forgets those in which it does.
func (e *eliminator) eliminate(x int) {
	above, below := e.signs(x)
	e.order = slices.DeleteFunc(e.order, func(k key) bool { return k[x] != 0 })
	for a, b := range pairs(above, below) {
		m, n := -e.rows[b].Coeffs[x], e.rows[a].Coeffs[x]
		g := divisor([]int{m, n})
		if e.keep(Line{Kind: Sum, A: a, B: b, M: m / g, N: n / g}); e.wrong {
			return
		}
	}
}

// refute looks for a certificate; false, if there are rational numbers that fulfil the rows.
func refute(rows []Row, unknowns int) ([]Line, bool) {
	e := eliminator{given: rows, unknowns: unknowns, best: map[key]int{}}
	for i := range rows {
		if e.keep(Line{Kind: Given, A: i}); e.wrong {
			return e.needed(), true
		}
	}
	for i := range unknowns {
		e.keep(Line{Kind: Natural, A: i})
	}
	for {
		x, ok := e.next()
		if !ok {
			return nil, false
		}
		if e.eliminate(x); e.wrong {
			return e.needed(), true
		}
	}
}

// needed returns the lines that the last one needs, with their new indices.
func (e *eliminator) needed() []Line {
	need := make([]bool, len(e.lines))
	need[len(need)-1] = true
	for i, l := range slices.Backward(e.lines) {
		if need[i] && l.Kind >= Sum {
			need[l.A] = true
			if l.Kind == Sum {
				need[l.B] = true
			}
		}
	}
	var r []Line
	at := make([]int, len(e.lines))
	for i, l := range e.lines {
		if !need[i] {
			continue
		}
		if l.Kind >= Sum {
			l.A = at[l.A]
		}
		if l.Kind == Sum {
			l.B = at[l.B]
		}
		at[i] = len(r)
		r = append(r, l)
	}
	return r
}
