package simp_test

import (
	"math/rand"
	"testing"

	"triforium/api"
	"triforium/checker"
	"triforium/classical"
	"triforium/hol"
	"triforium/kernel"
	"triforium/simp"
	"triforium/term"
)

func must[T any](x T, e api.Errno) T {
	if e != api.OK {
		panic(e)
	}
	return x
}

// ground returns a random term of True, False and the connectives.
func ground(r *rand.Rand, depth int) api.Term {
	if depth == 0 {
		return []api.Term{hol.True(), hol.False()}[r.Intn(2)]
	}
	a := ground(r, r.Intn(depth))
	switch r.Intn(4) {
	case 0:
		return hol.Not(a)
	case 1:
		return hol.And(a, ground(r, r.Intn(depth)))
	case 2:
		return hol.Or(a, ground(r, r.Intn(depth)))
	}
	return hol.Implies(a, ground(r, r.Intn(depth)))
}

// checked looks whether the checker takes the proof of a theorem.
func checked(t *testing.T, th kernel.Theorem) {
	t.Helper()
	s, e := checker.Check(th.Theory(), th.Proof())
	if e != api.OK || !checker.Same(s, checker.Sequent{Hyps: th.Hyps(), Prop: th.Prop(), Oracles: th.Oracles()}) {
		t.Fatal("the checker", e)
	}
}

// P21.5: Standard decides ground terms.
func TestDecided(t *testing.T) {
	r := rand.New(rand.NewSource(1))
	s := must(simp.Standard(hol.HOL()))
	for range 60 {
		x := ground(r, 4)
		th, e := simp.Rewrite(hol.HOL(), s, nil, x, 2, 500)
		if e != api.OK {
			t.Fatal(e)
		}
		checked(t, th)
		a, b, ok := term.IsEq(th.Prop())
		want := hol.False()
		if y, _, _ := classical.Tautology(x); y {
			want = hol.True()
		}
		if !ok || !term.Equal(a, x) || !term.Equal(b, want) {
			t.Error(must(term.Text(th.Prop())))
		}
	}
}

func free(name string, typ api.Type) api.Term { return api.Term{Op: api.Free, Name: name, Type: typ} }

func TestExample(t *testing.T) {
	p, q := free("P", hol.BoolType()), free("Q", hol.BoolType())
	s := must(simp.Standard(hol.HOL()))
	th := must(simp.Rewrite(hol.HOL(), s, nil, hol.And(p, hol.Implies(p, q)), 2, 100))
	checked(t, th)
	if _, b, _ := term.IsEq(th.Prop()); !term.Equal(b, hol.And(p, q)) {
		t.Error(must(term.Text(b)))
	}
}
