package term

import (
	"slices"

	"triforium/api"
)

// isRedex reports whether a term is an application of an abstraction.
func isRedex(t *api.Term) bool {
	return t.Op == api.App && len(t.Kids) == 2 && t.Kids[0].Op == api.Abs && len(t.Kids[0].Kids) == 1
}

// Beta returns what a redex becomes in one step.
func Beta(t api.Term) (api.Term, bool) {
	if !isRedex(&t) {
		return api.Term{}, false
	}
	return clone(put(&t.Kids[0].Kids[0], &t.Kids[1], unlimited)), true
}

// Norm returns the beta normal form; Eta the eta normal form of a term.
func Norm(t api.Term, fuel int) (api.Term, api.Errno) {
	return NormWithin(t, fuel, api.MaxTerm, api.MaxDepth)
}

// NormWithin is Norm, where no term on the way may have more nodes, or more within each other, than it is said (which must not be above the limits of terms).
func NormWithin(t api.Term, fuel, nodes, depth int) (api.Term, api.Errno) {
	r, e := norm(t, fuel, meter{most: nodes, deepest: depth})
	return clone(r), e
}

// norm is NormWithin; what it returns shares memory with the term.
func norm(t api.Term, fuel int, limits meter) (r api.Term, e api.Errno) {
	defer func() {
		if x := recover(); x != nil {
			r, e = api.Term{}, failure(x)
		}
	}()
	if e := limits.error(&t); e != api.OK {
		return api.Term{}, e
	}
	for steps := 0; ; steps++ {
		if !hasRedex(&t) {
			return t, api.OK
		}
		if steps >= fuel {
			return api.Term{}, api.ErrFuel
		}
		next, _ := step(&t)
		if e := limits.error(&next); e != api.OK {
			return api.Term{}, e
		}
		t = next
	}
}

// failure returns the error with which a function was left.
func failure(x any) api.Errno {
	if e, ok := x.(api.Errno); ok {
		return e
	}
	return api.ErrForm
}

// hasRedex reports whether a step is possible.
func hasRedex(t *api.Term) bool {
	for n := range Nodes(t) {
		if isRedex(n) {
			return true
		}
	}
	return false
}

// step makes the leftmost outermost step, and reports whether there was one. The result shares memory with the term.
func step(t *api.Term) (api.Term, bool) {
	if isRedex(t) {
		return put(&t.Kids[0].Kids[0], &t.Kids[1], api.MaxTerm), true
	}
	for i := range t.Kids {
		if kid, ok := step(&t.Kids[i]); ok {
			r := *t
			r.Kids = slices.Clone(t.Kids)
			r.Kids[i] = kid
			return r, true
		}
	}
	return api.Term{}, false
}

// Eta returns the eta normal form of a term.
func Eta(t api.Term) api.Term { return clone(eta(&t)) }

// eta is Eta; what it returns shares memory with the term.
func eta(t *api.Term) api.Term {
	r := *t
	r.Kids = make([]api.Term, len(t.Kids))
	for i := range t.Kids {
		r.Kids[i] = eta(&t.Kids[i])
	}
	if f := etaHead(&r); f != nil {
		return lift(f, -1)
	}
	return r
}

// etaHead returns the function that an abstraction only applies to its variable, nil for other terms.
func etaHead(t *api.Term) *api.Term {
	if t.Op != api.Abs || len(t.Kids) != 1 {
		return nil
	}
	body := &t.Kids[0]
	if body.Op != api.App || len(body.Kids) != 2 || body.Kids[1].Op != api.Bound || body.Kids[1].Num != 0 || mentions(&body.Kids[0], 0) {
		return nil
	}
	return &body.Kids[0]
}

// mentions reports whether a term has the bound variable of an abstraction around.
func mentions(t *api.Term, variable int) bool {
	if t.Op == api.Bound && t.Num == variable {
		return true
	}
	if t.Op == api.Abs {
		variable++
	}
	for i := range t.Kids {
		if mentions(&t.Kids[i], variable) {
			return true
		}
	}
	return false
}
