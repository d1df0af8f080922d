package classical_test

import (
	"iter"
	"testing"

	"triforium/api"
	"triforium/checker"
	"triforium/classical"
	"triforium/hol"
	"triforium/kernel"
	"triforium/term"
)

func must[T any](x T, e api.Errno) T {
	if e != api.OK {
		panic(e)
	}
	return x
}

func free(name string) api.Term { return api.Term{Op: api.Free, Name: name, Type: hol.BoolType()} }

// checked looks whether the checker takes the proof of a theorem, and finds what it states.
func checked(t *testing.T, th kernel.Theorem) {
	t.Helper()
	s, e := checker.Check(th.Theory(), th.Proof())
	if e != api.OK || !checker.Same(s, checker.Sequent{Hyps: th.Hyps(), Prop: th.Prop(), Oracles: th.Oracles()}) {
		t.Fatal("the checker", e)
	}
}

// formulas yields the terms of some atoms with so many connectives.
func formulas(atoms []api.Term, n int) iter.Seq[api.Term] {
	return func(yield func(api.Term) bool) {
		if n == 0 {
			for _, a := range atoms {
				if !yield(a) {
					return
				}
			}
			return
		}
		for a := range formulas(atoms, n-1) {
			if !yield(hol.Not(a)) {
				return
			}
		}
		for k := range n {
			for a := range formulas(atoms, k) {
				for b := range formulas(atoms, n-1-k) {
					if !yield(hol.And(a, b)) || !yield(hol.Or(a, b)) || !yield(hol.Implies(a, b)) {
						return
					}
				}
			}
		}
	}
}

// P22.3: what is true for all values is proved, and nothing else.
func TestComplete(t *testing.T) {
	atoms := []api.Term{hol.True(), hol.False(), free("a"), free("b"), free("c")}
	proved, left, i := 0, 0, 0
	for n := range 4 {
		for x := range formulas(atoms, n) {
			i++
			is, _, e := classical.Tautology(x)
			if n == 3 && i%1597 != 0 || n == 2 && i%41 != 0 || e != api.OK {
				continue
			}
			th, e := classical.Prove(hol.HOL(), nil, hol.Truth(x), 1)
			if is != (e == api.OK) || !is && e != api.ErrFail {
				t.Fatal(must(term.Text(x)), is, e)
			}
			if left++; !is {
				continue
			}
			proved++
			checked(t, th)
			if !term.Equal(th.Prop(), hol.Truth(x)) || len(th.Hyps())+len(th.Oracles()) > 0 {
				t.Error(must(term.Text(th.Prop())))
			}
		}
	}
	t.Log(i, left, proved)
}
