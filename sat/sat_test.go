package sat_test

import (
	"math/rand"
	"testing"

	"triforium/api"
	"triforium/checker"
	"triforium/classical"
	"triforium/hol"
	"triforium/kernel"
	"triforium/sat"
	"triforium/term"
)

func must[T any](x T, e api.Errno) T {
	if e != api.OK {
		panic(e)
	}
	return x
}

// checked looks whether the checker takes the proof of a theorem, and finds what it states.
func checked(t *testing.T, th kernel.Theorem) {
	t.Helper()
	s, e := checker.Check(th.Theory(), th.Proof())
	if e != api.OK || !checker.Same(s, checker.Sequent{Hyps: th.Hyps(), Prop: th.Prop(), Oracles: th.Oracles()}) {
		t.Fatal("the checker", e)
	}
}

func free(name string) api.Term { return api.Term{Op: api.Free, Name: name, Type: hol.BoolType()} }

// randomTerm returns a term of connectives and four atoms.
func randomTerm(r *rand.Rand, depth int) api.Term {
	if depth == 0 || r.Intn(5) == 0 {
		return []api.Term{free("a"), free("b"), free("c"), free("d"), hol.True(), hol.False(), free("a"), free("b")}[r.Intn(8)]
	}
	a, b := randomTerm(r, depth-1), randomTerm(r, depth-1)
	return []api.Term{hol.Not(a), hol.And(a, b), hol.Or(a, b), hol.Implies(a, b), must(hol.Equal(a, b))}[r.Intn(5)]
}

// P25.4: what holds for all values is proved, and nothing else.
func TestTautology(t *testing.T) {
	r := rand.New(rand.NewSource(1))
	yes, no := 0, 0
	for range 400 {
		x := randomTerm(r, 4)
		is, _, _ := classical.Tautology(x)
		th, e := sat.Tautology(hol.HOL(), x, 1000)
		if is != (e == api.OK) || !is && e != api.ErrFail {
			t.Fatal(must(term.Text(x)), is, e)
		}
		if no++; !is {
			continue
		}
		yes++
		checked(t, th)
		if !term.Equal(th.Prop(), hol.Truth(x)) || len(th.Hyps())+len(th.Oracles()) > 0 {
			t.Fatal(must(term.Text(th.Prop())))
		}
	}
	t.Log(yes, no)
}
