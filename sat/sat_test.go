package sat_test

import (
	"iter"
	"math/rand"
	"slices"
	"testing"

	"triforium/api"
	"triforium/checker"
	"triforium/classical"
	"triforium/hol"
	"triforium/kernel"
	"triforium/sat"
	"triforium/term"
	"triforium/theory"
)

func must[T any](x T, e api.Errno) T {
	if e != api.OK {
		panic(e)
	}
	return x
}

// checked looks whether the checker takes the proof of a theorem, and finds what it states.
func checked(t *testing.T, th kernel.Theorem) {
	t.Helper()
	s, e := checker.Check(th.Theory(), th.Proof())
	if e != api.OK || !checker.Same(s, checker.Sequent{Hyps: th.Hyps(), Prop: th.Prop(), Oracles: th.Oracles()}) {
		t.Fatal("the checker", e)
	}
}

func free(name string) api.Term { return api.Term{Op: api.Free, Name: name, Type: hol.BoolType()} }

// randomTerm returns a term of connectives and four atoms.
func randomTerm(r *rand.Rand, depth int) api.Term {
	if depth == 0 || r.Intn(5) == 0 {
		return []api.Term{free("a"), free("b"), free("c"), free("d"), hol.True(), hol.False(), free("a"), free("b")}[r.Intn(8)]
	}
	a, b := randomTerm(r, depth-1), randomTerm(r, depth-1)
	return []api.Term{hol.Not(a), hol.And(a, b), hol.Or(a, b), hol.Implies(a, b), must(hol.Equal(a, b))}[r.Intn(5)]
}

// P25.4: what holds for all values is proved, and nothing else.
func TestTautology(t *testing.T) {
	r := rand.New(rand.NewSource(1))
	yes, no := 0, 0
	for range 400 {
		x := randomTerm(r, 4)
		is, _, _ := classical.Tautology(x)
		th, e := sat.Tautology(hol.HOL(), x, 1000)
		if is != (e == api.OK) || !is && e != api.ErrFail {
			t.Fatal(must(term.Text(x)), is, e)
		}
		if no++; !is {
			continue
		}
		yes++
		checked(t, th)
		if !term.Equal(th.Prop(), hol.Truth(x)) || len(th.Hyps())+len(th.Oracles()) > 0 {
			t.Fatal(must(term.Text(th.Prop())))
		}
	}
	t.Log(yes, no)
}

// values yields all values of n atoms.
func values(n int) iter.Seq[[]bool] {
	return func(yield func([]bool) bool) {
		for k := range 1 << n {
			x := make([]bool, n+1)
			for i := range n {
				x[i+1] = k>>i&1 == 1
			}
			if !yield(x) {
				return
			}
		}
	}
}

// holds reports whether clauses hold with values.
func holds(l []sat.Clause, x []bool) bool {
	for _, c := range l {
		if !slices.ContainsFunc(c, func(y int) bool { return y > 0 && x[y] || y < 0 && !x[-y] }) {
			return false
		}
	}
	return true
}

// randomClauses returns right clauses over n atoms.
func randomClauses(r *rand.Rand, n, count int) []sat.Clause {
	l := make([]sat.Clause, count)
	for i := range l {
		for a := 1; a <= n; a++ {
			if r.Intn(n) < 2 {
				l[i] = append(l[i], a*(1-2*r.Intn(2)))
			}
		}
	}
	return l
}

func TestCheck(t *testing.T) {
	for i, v := range []struct {
		l []sat.Clause
		e api.Errno
	}{
		{nil, 0}, {[]sat.Clause{{}}, 0}, {[]sat.Clause{{1, -2, 60}}, 0}, {[]sat.Clause{{0}}, sat.ErrClause}, {[]sat.Clause{{61}}, sat.ErrClause}, {[]sat.Clause{{-61}}, sat.ErrClause}, {[]sat.Clause{{1, 1}}, sat.ErrClause}, {[]sat.Clause{{1, -1}}, sat.ErrClause}, {[]sat.Clause{{1}, {2, -1}}, sat.ErrClause},
		{[]sat.Clause{{-1 << 63}}, sat.ErrClause}, {[]sat.Clause{{1<<63 - 1}}, sat.ErrClause}, {make([]sat.Clause, 500), 0}, {make([]sat.Clause, 501), api.ErrCount}, {append(make([]sat.Clause, 500), sat.Clause{0}), api.ErrCount},
	} {
		if e := sat.Check(v.l); e != v.e {
			t.Error(i, e)
		}
		if v.e == api.OK {
			continue
		}
		if x, e := sat.Solve(v.l, -1); e != v.e || x.Holds || len(x.Values)+len(x.Proof) > 0 {
			t.Error(i, e)
		}
		if l, at, e := sat.Replay(v.l, make([]sat.Step, 20001)); e != v.e || at != 0 || len(l) > 0 {
			t.Error(i, e)
		}
		if _, e := sat.Trim(v.l, make([]sat.Step, 20001)); e != v.e {
			t.Error(i, e)
		}
	}
}

// The example of the chapter, and steps that may not be made.
func TestReplay(t *testing.T) {
	l := []sat.Clause{{1}, {-1, 2}, {-2}}
	for i, v := range []struct {
		p    []sat.Step
		made []sat.Clause
		at   int
		e    api.Errno
	}{
		{nil, nil, 0, 0}, {[]sat.Step{{0, 1, 1}, {3, 2, 2}}, []sat.Clause{{2}, {}}, 0, 0}, {[]sat.Step{{1, 0, 1}}, nil, 0, sat.ErrProof}, {[]sat.Step{{1, 2, 2}, {0, 3, 1}}, []sat.Clause{{-1}, {}}, 0, 0}, {[]sat.Step{{0, 1, 1}, {4, 2, 2}}, nil, 1, sat.ErrProof}, {[]sat.Step{{0, 1, 1}, {3, 2, 1}}, nil, 1, sat.ErrProof},
		{[]sat.Step{{0, 1, -1}}, nil, 0, sat.ErrProof}, {[]sat.Step{{1, 0, -1}}, nil, 0, sat.ErrProof}, {[]sat.Step{{-1, 1, 1}}, nil, 0, sat.ErrProof}, {[]sat.Step{{0, 1, 0}}, nil, 0, sat.ErrProof}, {[]sat.Step{{0, 1, 1 << 62}}, nil, 0, sat.ErrProof}, {[]sat.Step{{0, 1, 1}, {0, 1, 1}, {0, 0, 1}}, nil, 2, sat.ErrProof}, {make([]sat.Step, 20001), nil, 0, api.ErrCount}, {make([]sat.Step, 20000), nil, 0, sat.ErrProof},
	} {
		made, at, e := sat.Replay(l, v.p)
		if e != v.e || at != v.at || !slices.EqualFunc(made, v.made, func(a, b sat.Clause) bool { return slices.Equal(a, b) }) {
			t.Error(i, made, at, e)
		}
	}
	// no resolvent, if an atom would stand in it both ways
	if _, at, e := sat.Replay([]sat.Clause{{1, 2}, {-1, -2}}, []sat.Step{{0, 1, 1}}); e != sat.ErrProof || at != 0 {
		t.Error(at, e)
	}
	made, _, e := sat.Replay([]sat.Clause{{1, -2, 4}, {-1, -2, 3, 5}}, []sat.Step{{0, 1, 1}})
	if e != api.OK || !slices.Equal(made[0], []int{-2, 3, 4, 5}) {
		t.Error(made, e)
	}
}

func TestTrim(t *testing.T) {
	l := []sat.Clause{{1}, {-1, 2}, {-2}, {3}}
	for i, v := range []struct {
		l    []sat.Clause
		p    []sat.Step
		want []sat.Step
		e    api.Errno
	}{
		{l, []sat.Step{{0, 1, 1}, {4, 2, 2}}, []sat.Step{{0, 1, 1}, {4, 2, 2}}, 0}, {l, []sat.Step{{1, 2, 2}, {0, 1, 1}, {0, 4, 1}, {5, 2, 2}}, []sat.Step{{1, 2, 2}, {0, 4, 1}}, 0}, {l, []sat.Step{{0, 1, 1}, {0, 1, 1}, {5, 2, 2}}, []sat.Step{{0, 1, 1}, {4, 2, 2}}, 0},
		{l, []sat.Step{{0, 1, 1}}, nil, sat.ErrProof}, {l, nil, nil, sat.ErrProof}, {append([]sat.Clause{{}}, l...), []sat.Step{{1, 2, 1}}, nil, 0}, {l, []sat.Step{{0, 0, 1}}, nil, sat.ErrProof}, {append([]sat.Clause{{}}, l...), []sat.Step{{1, 1, 1}}, nil, sat.ErrProof}, {l, make([]sat.Step, 20001), nil, api.ErrCount},
	} {
		p, e := sat.Trim(v.l, v.p)
		if e != v.e || !slices.Equal(p, v.want) {
			t.Error(i, p, e)
		}
	}
}

// P25.2, P25.3, P25.5 on random clauses.
func TestSolve(t *testing.T) {
	r := rand.New(rand.NewSource(1))
	yes, no := 0, 0
	for i := range 1500 {
		n := 1 + r.Intn(6)
		l := randomClauses(r, n, r.Intn(6*n))
		can := false
		for x := range values(n) {
			can = can || holds(l, x)
		}
		x, e := sat.Solve(l, 1<<n)
		if e != api.OK || x.Holds != can {
			t.Fatal(l, x, e)
		}
		if can {
			yes++
			greatest := -1
			for _, c := range l {
				for _, y := range c {
					greatest = max(greatest, y, -y)
				}
			}
			if len(x.Values) != greatest+1 || len(x.Proof) > 0 || len(x.Values) > 0 && x.Values[0] || !holds(l, append(x.Values, make([]bool, n+1)...)) {
				t.Fatal(l, x)
			}
			if y, e := sat.Solve(l[:r.Intn(len(l)+1)], 1<<n); e != api.OK || !y.Holds {
				t.Fatal("fewer", l)
			}
			continue
		}
		no++
		made, _, e := sat.Replay(l, x.Proof)
		if e != api.OK || len(x.Values) > 0 || len(made) > 0 && len(made[len(made)-1]) > 0 || len(made) == 0 && !slices.ContainsFunc(l, func(c sat.Clause) bool { return len(c) == 0 }) {
			t.Fatal(l, x, e)
		}
		for v := range values(n) {
			if holds(l, v) && !holds(made, v) {
				t.Fatal("a clause that does not follow", l, made)
			}
		}
		p, e := sat.Trim(l, x.Proof)
		again, f := sat.Trim(l, p)
		if e != api.OK || f != api.OK || !slices.Equal(p, again) || !slices.Equal(p, x.Proof) {
			t.Fatal("Trim", l, p, again)
		}
		if y, e := sat.Solve(append(slices.Clone(l), sat.Clause{1}), 1<<n); e != api.OK || y.Holds {
			t.Fatal("more", l)
		}
		if i%4 == 0 {
			rebuilt(t, l, p, n)
		}
	}
	if yes < 300 || no < 300 {
		t.Error(yes, no)
	}
}

// valueOf returns the value of a term of connectives, if those of its atoms are known.
func valueOf(t api.Term, of func(atom api.Term) bool) bool {
	name, l, ok := hol.Connective(t)
	if !ok {
		return of(t)
	}
	switch name {
	case "True":
		return true
	case "Not":
		return !valueOf(l[0], of)
	case "And":
		return valueOf(l[0], of) && valueOf(l[1], of)
	case "Or":
		return valueOf(l[0], of) || valueOf(l[1], of)
	case "Implies":
		return !valueOf(l[0], of) || valueOf(l[1], of)
	case "Equal":
		return valueOf(l[0], of) == valueOf(l[1], of)
	}
	return false
}

// termOf returns the term of a clause.
func termOf(atoms []api.Term, c sat.Clause) api.Term {
	lit := func(x int) api.Term {
		if x < 0 {
			return hol.Not(atoms[-x-1])
		}
		return atoms[x-1]
	}
	if len(c) == 0 {
		return hol.False()
	}
	t := lit(c[len(c)-1])
	for _, x := range slices.Backward(c[:len(c)-1]) {
		t = hol.Or(lit(x), t)
	}
	return t
}

// rebuilt looks whether Rebuild states False from the clauses that a trimmed proof needs.
func rebuilt(t *testing.T, l []sat.Clause, p []sat.Step, n int) {
	t.Helper()
	a, b := free("a"), free("b")
	atoms := []api.Term{a, hol.Not(a), b, hol.And(a, b), hol.Or(a, hol.Not(b)), free("c")}[:n]
	th, e := sat.Rebuild(hol.HOL(), atoms, l, p)
	if e != api.OK || !term.Equal(th.Prop(), hol.Truth(hol.False())) || len(th.Oracles()) > 0 {
		t.Fatal(l, p, e)
	}
	checked(t, th)
	var want []api.Term
	for i, c := range l {
		used := len(p) == 0 && len(c) == 0 || slices.ContainsFunc(p, func(s sat.Step) bool { return s.A == i || s.B == i })
		if used {
			want = append(want, hol.Truth(termOf(atoms, c)))
		}
	}
	slices.SortFunc(want, term.Compare)
	want = slices.CompactFunc(want, term.Equal)
	if !slices.EqualFunc(th.Hyps(), want, term.Equal) {
		t.Fatal("the hypotheses", l, p, len(th.Hyps()), len(want))
	}
}

func TestFuel(t *testing.T) {
	l := []sat.Clause{{1}, {-1, 2}, {-2}}
	for i, v := range []struct {
		l    []sat.Clause
		fuel int
		e    api.Errno
	}{{l, -1, api.ErrRange}, {l, 100001, api.ErrRange}, {l, 0, api.ErrFuel}, {l, 4, 0}, {l[:2], 0, 0}, {nil, 0, 0}, {[]sat.Clause{{}}, 0, 0}, {l, 100000, 0}} {
		if _, e := sat.Solve(v.l, v.fuel); e != v.e {
			t.Error(i, e)
		}
	}
	// five pigeons in four holes: the atom of the pigeon i and the hole k is 4 i + k
	var holes []sat.Clause
	for i := range 5 {
		holes = append(holes, sat.Clause{4*i + 1, 4*i + 2, 4*i + 3, 4*i + 4})
	}
	for k := 1; k <= 4; k++ {
		for i := range 5 {
			for j := range i {
				holes = append(holes, sat.Clause{-(4*j + k), -(4*i + k)})
			}
		}
	}
	x, e := sat.Solve(holes, 100000)
	if e != api.OK || x.Holds {
		t.Fatal(e)
	}
	var atoms []api.Term
	for i := range 20 {
		atoms = append(atoms, free("x"+string(rune('a'+i))))
	}
	th, e := sat.Rebuild(hol.HOL(), atoms, holes, x.Proof)
	if e != api.OK || len(th.Hyps()) != len(holes) {
		t.Fatal(len(x.Proof), e, len(th.Hyps()))
	}
	checked(t, th)
}

func TestClauses(t *testing.T) {
	r := rand.New(rand.NewSource(4))
	for range 250 {
		x := randomTerm(r, 3)
		l, atoms, e := sat.Clauses(x)
		if e != api.OK || sat.Check(l) != api.OK {
			t.Fatal(e)
		}
		if want := hol.Atoms(x, 60); !slices.EqualFunc(atoms, want, term.Equal) {
			t.Fatal("the atoms")
		}
		can := false
		n := len(atoms)
		for v := range values(n) {
			can = can || valueOf(x, func(a api.Term) bool { return v[1+hol.AtomIndex(atoms, a)] })
		}
		s := must(sat.Solve(l, 10000))
		if s.Holds != can {
			t.Fatal(must(term.Text(x)), l)
		}
		if can && !valueOf(x, func(a api.Term) bool {
			i := 1 + hol.AtomIndex(atoms, a)
			return i < len(s.Values) && s.Values[i]
		}) {
			t.Fatal("values", must(term.Text(x)), s.Values)
		}
	}
	n := api.Term{Op: api.Free, Name: "n", Type: hol.NatType()}
	wide := hol.True()
	for i := range 70 {
		wide = hol.And(free("x"+string(rune('a'+i%26))+string(rune('a'+i/26))), wide)
	}
	for i, v := range []struct {
		t api.Term
		e api.Errno
	}{{api.Term{}, api.ErrForm}, {n, api.ErrType}, {hol.Truth(free("a")), api.ErrType}, {wide, api.ErrLarge}} {
		if l, a, e := sat.Clauses(v.t); e != v.e || len(l)+len(a) > 0 {
			t.Error(i, e)
		}
	}
	// 20 connectives and atoms are never too many
	tall := free("a")
	for i := range 9 {
		tall = must(hol.Equal(tall, free(string(rune('b'+i)))))
	}
	if _, _, e := sat.Clauses(hol.Not(tall)); e != api.OK {
		t.Error(e)
	}
}

func TestErrors(t *testing.T) {
	a := free("a")
	n := api.Term{Op: api.Free, Name: "n", Type: hol.NatType()}
	for i, v := range []struct {
		thy  api.Theory
		t    api.Term
		fuel int
		e    api.Errno
	}{{api.Theory{}, api.Term{}, -1, api.ErrForm}, {theory.Pure(), api.Term{}, -1, api.ErrTheory}, {hol.HOL(), api.Term{}, -1, api.ErrForm}, {hol.HOL(), n, -1, api.ErrMissing}, {hol.Nat(), n, -1, api.ErrType}, {hol.HOL(), a, -1, api.ErrRange}, {hol.HOL(), a, 0, api.ErrFail}, {hol.HOL(), hol.Or(a, hol.Not(a)), 0, api.ErrFuel}, {hol.HOL(), hol.Or(a, hol.Not(a)), 9, 0}, {hol.HOL(), hol.True(), 9, 0}, {hol.HOL(), hol.False(), 9, api.ErrFail}} {
		if th, e := sat.Tautology(v.thy, v.t, v.fuel); e != v.e || th.Is() != (e == 0) {
			t.Error(i, e)
		}
	}
	p := []sat.Step{{0, 1, 1}}
	for i, v := range []struct {
		thy   api.Theory
		atoms []api.Term
		l     []sat.Clause
		p     []sat.Step
		e     api.Errno
	}{
		{api.Theory{}, nil, nil, nil, api.ErrForm}, {theory.Pure(), make([]api.Term, 1), nil, nil, api.ErrTheory}, {hol.HOL(), make([]api.Term, 1), []sat.Clause{{0}}, nil, api.ErrForm}, {hol.Nat(), []api.Term{n, {}}, []sat.Clause{{0}}, nil, api.ErrType}, {hol.HOL(), []api.Term{a}, []sat.Clause{{0}}, nil, sat.ErrClause}, {hol.HOL(), []api.Term{a}, []sat.Clause{{2}}, make([]sat.Step, 30000), api.ErrRange},
		{hol.HOL(), []api.Term{a}, []sat.Clause{{1}}, nil, sat.ErrProof}, {hol.HOL(), []api.Term{a}, []sat.Clause{{1}, {-1}}, make([]sat.Step, 30000), api.ErrCount}, {hol.HOL(), []api.Term{a}, []sat.Clause{{1}, {-1}}, p, 0}, {hol.HOL(), nil, []sat.Clause{{}}, nil, 0},
	} {
		if th, e := sat.Rebuild(v.thy, v.atoms, v.l, v.p); e != v.e || th.Is() != (e == 0) {
			t.Error(i, e)
		}
	}
}
