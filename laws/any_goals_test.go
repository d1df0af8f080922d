package laws

import (
	"math"
	"math/rand"
	"slices"
	"testing"

	"triforium/api"
	"triforium/kernel"
	"triforium/net"
	"triforium/pattern"
	"triforium/resolve"
	"triforium/tactic"
	"triforium/term"
	"triforium/unify"
)

func (c chaos) pairs() []pattern.Pair {
	var l []pattern.Pair
	for c.Intn(2) == 0 {
		p := pattern.Pair{A: c.term(3), B: c.term(3)}
		if c.Intn(3) > 0 { // right terms
			g := newGrower(c.Int63())
			g.patterns = c.Intn(2) == 0
			p = g.pair()
		}
		l = append(l, p)
	}
	return l
}

// theorem returns a theorem, or none.
func (c chaos) theorem() kernel.Theorem {
	if c.Intn(6) == 0 {
		return kernel.Theorem{}
	}
	s := newSubgoals(c.Int63())
	if c.Intn(3) == 0 {
		return s.theorem(term.Imp(s.subgoal(2, 2), term.Protect(s.prop(1))))
	}
	return s.state()
}

func (c chaos) expr(depth int) tactic.Expr {
	e := tactic.Expr{Kind: c.Intn(20)}
	if c.Intn(4) == 0 {
		e.At, e.Num = c.number(), c.number()
	}
	if e.Kind == tactic.Cut || c.Intn(10) == 0 {
		e.Prop = c.term(3)
	}
	kids := 0
	if e.Kind >= tactic.Then && e.Kind <= tactic.Solve {
		kids = 1
		if e.Kind <= tactic.Else {
			kids = 2
		}
	}
	if c.Intn(10) == 0 {
		kids = c.Intn(4)
	}
	for depth > 0 && kids > 0 {
		e.Kids = append(e.Kids, c.expr(depth-1))
		kids--
	}
	return e
}

// zeroInst looks whether an instantiation beside an error is a zero value.
func zeroInst(t *testing.T, i api.Inst, e api.Errno) {
	t.Helper()
	if e != api.OK && len(i.Types)+len(i.Terms) > 0 {
		t.Fatal("binds beside an error", e)
	}
}

// Functions of layers 9 and 10 end without a panic for values that are not well-formed, with zero values beside an error.
func TestAnyPairs(t *testing.T) {
	c := chaos{rand.New(rand.NewSource(9))}
	good := 0
	for range 3000 {
		thy, l, i, j := c.theory(), c.pairs(), c.inst(), c.inst()
		x, y := c.term(4), c.term(4)
		pattern.Is(x)
		u, e := pattern.Unify(thy, l)
		zeroInst(t, u, e)
		m, e := pattern.Match(thy, x, y)
		zeroInst(t, m, e)
		if e == api.OK {
			good++
		}
		pattern.Solves(thy, i, l)
		k, e := pattern.Compose(i, j)
		zeroInst(t, k, e)
		if e == api.OK && !term.Equal(term.Apply(k, x), term.Apply(j, term.Apply(i, x))) {
			t.Fatal("Compose")
		}
		if ok, e := pattern.Least(thy, i, j, append(term.Vars(x), term.Vars(y)...)); ok && e != api.OK {
			t.Fatal("Least", e)
		}
		depth := c.Intn(5)
		if c.Intn(5) == 0 {
			depth = c.number()
		}
		all, more, e := unify.First(thy, l, min(depth, 6), c.number()%20)
		if e != api.OK && (len(all) > 0 || more) {
			t.Fatal("First", e)
		}
		n := 0
		for range unify.All(thy, l, min(depth, 6)) {
			if n++; n == 5 {
				break
			}
		}
		if n > 0 {
			good++
		}
		s, left, ok, e := unify.Simplify(thy, l)
		zeroInst(t, s, e)
		if (e != api.OK || !ok) && (len(s.Types)+len(s.Terms)+len(left) > 0 || e != api.OK && ok) {
			t.Fatal("Simplify", e, ok)
		}
		v, e := unify.Close(thy, unify.Unifier{Inst: i, Flex: l})
		zeroInst(t, v, e)
		for _, q := range all {
			unify.Close(thy, q)
		}
	}
	if good < 1000 {
		t.Error(good)
	}
}

// Functions of layers 11 to 13 end without a panic for any values.
func TestAnyStates(t *testing.T) {
	c := chaos{rand.New(rand.NewSource(11))}
	n := net.New[int]()
	good := 0
	for k := range 1000 {
		x, y := c.term(4), c.term(3)
		n, _ = n.Insert(x, k%7)
		if k%3 == 0 {
			n, _ = n.Delete(y, k%7)
		}
		if len(slices.Collect(n.Match(y))) > len(slices.Collect(n.Unify(y))) || len(slices.Collect(n.All())) != n.Len() {
			t.Fatal("net")
		}
		if s := resolve.Split(x); !term.Equal(resolve.Whole(resolve.Split(resolve.Whole(s))), resolve.Whole(s)) {
			t.Fatal("Split")
		}
		a, b := c.theorem(), c.theorem()
		at, kind, depth, most := c.number(), c.Intn(5), c.number(), c.number()
		if c.Intn(2) == 0 {
			at, depth, most = 0, 4, 5
		}
		l, more, e := resolve.First(a, at, b, kind, depth, most)
		m, also, f := resolve.Solved(at, b, depth, most)
		if e != api.OK && (more || len(l) > 0) || f != api.OK && (also || len(m) > 0) {
			t.Fatal("beside an error", e, f)
		}
		for _, th := range slices.Concat(l, m) {
			taken(t, th)
			good++
		}
		for _, of := range []func() (kernel.Theorem, api.Errno){
			func() (kernel.Theorem, api.Errno) { return resolve.Raised(a, b) }, func() (kernel.Theorem, api.Errno) { return resolve.Lift(a, at, b) }, func() (kernel.Theorem, api.Errno) { return resolve.Of(a, b, depth) }, func() (kernel.Theorem, api.Errno) { return tactic.Conclude(b) },
		} {
			if th, e := of(); th.Is() != (e == api.OK) {
				t.Fatal(e)
			}
		}
		g := c.expr(3)
		rules := []kernel.Theorem{a, b}
		fuel := []int{c.number(), 20}[c.Intn(2)]
		e = tactic.Form(g, len(rules))
		tac, f := tactic.Make(c.theory(), rules, g, fuel)
		if (tac != nil) != (f == api.OK) || e != api.OK && f == api.OK {
			t.Fatal("Make", e, f)
		}
		if tac != nil {
			for range tac(b) {
				break
			}
		}
		r, more, e := tactic.Run(theories()[1], rules, g, b, fuel, []int{c.number(), 5}[c.Intn(2)])
		if e != api.OK && (len(r) > 0 || more) {
			t.Fatal("Run", e)
		}
		if th, e := tactic.Prove(theories()[c.Intn(2)], rules, x, g, fuel); th.Is() != (e == api.OK) {
			t.Fatal("Prove", e)
		}
		if th, e := tactic.Goal(c.theory(), y); th.Is() != (e == api.OK) {
			t.Fatal("Goal", e)
		}
		tactic.Form(g, math.MinInt)
	}
	if good < 100 {
		t.Error(good)
	}
}
