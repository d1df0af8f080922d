package tableau_test

import (
	"testing"

	"triforium/api"
	"triforium/checker"
	"triforium/hol"
	"triforium/kernel"
	"triforium/tableau"
	"triforium/term"
)

func must[T any](x T, e api.Errno) T {
	if e != api.OK {
		panic(e)
	}
	return x
}

// checked looks whether the checker takes the proof of a theorem, and finds what it states.
func checked(t *testing.T, th kernel.Theorem) {
	t.Helper()
	s, e := checker.Check(th.Theory(), th.Proof())
	if e != api.OK || !checker.Same(s, checker.Sequent{Hyps: th.Hyps(), Prop: th.Prop(), Oracles: th.Oracles()}) {
		t.Fatal("the checker", e)
	}
}

func free(name string, typ api.Type) api.Term { return api.Term{Op: api.Free, Name: name, Type: typ} }

func TestProve(t *testing.T) {
	b := hol.BoolType()
	p, q, r := free("p", b), free("q", b), free("r", b)
	eq := func(a, b api.Term) api.Term { return must(hol.Equal(a, b)) }
	for i, x := range []api.Term{
		hol.Implies(hol.And(p, q), hol.And(q, p)), eq(eq(p, q), eq(q, p)), eq(eq(p, eq(q, r)), eq(eq(p, q), r)), eq(hol.Not(hol.And(p, q)), hol.Or(hol.Not(p), hol.Not(q))),
		hol.Implies(must(hol.All(p, hol.Or(p, q))), q),
	} {
		th, e := tableau.Prove(hol.HOL(), x, 2, 200)
		if e != api.OK || !term.Equal(th.Prop(), hol.Truth(x)) || len(th.Hyps()) > 0 {
			t.Error(i, e)
			continue
		}
		checked(t, th)
	}
}
