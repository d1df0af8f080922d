package simp_test

import (
	"math/rand"
	"slices"
	"testing"

	"triforium/api"
	"triforium/checker"
	"triforium/classical"
	"triforium/conv"
	"triforium/hol"
	"triforium/kernel"
	"triforium/resolve"
	"triforium/simp"
	"triforium/tactic"
	"triforium/term"
	"triforium/theory"
	"triforium/types"
)

func must[T any](x T, e api.Errno) T {
	if e != api.OK {
		panic(e)
	}
	return x
}

func nat() api.Type { return hol.NatType() }

func boolean() api.Type { return hol.BoolType() }

// thy is Nat with the constants a, b : nat, f : nat => nat => nat, p : nat => bool, and an oracle.
func thy() api.Theory {
	n := nat()
	return must(theory.Extend(hol.Nat(), "T", api.Theory{
		Consts:  []api.ConstDecl{{Name: "a", Type: n}, {Name: "b", Type: n}, {Name: "f", Type: types.Fun(n, types.Fun(n, n))}, {Name: "p", Type: types.Fun(n, boolean())}},
		Oracles: []string{"trust"},
	}))
}

// ask is a theory that is made once.
var askThy = func() api.Theory { return thy() }()

func c(name string, l ...api.Term) api.Term {
	typ, ok := theory.Const(askThy, name)
	if !ok {
		panic(name)
	}
	return term.Apps(api.Term{Op: api.Const, Name: name, Type: typ}, l)
}

func free(name string, typ api.Type) api.Term { return api.Term{Op: api.Free, Name: name, Type: typ} }
func schem(name string, i int, typ api.Type) api.Term {
	return api.Term{Op: api.Var, Name: name, Num: i, Type: typ}
}
func n(name string) api.Term { return schem(name, 0, nat()) }
func eq(a, b api.Term) api.Term {
	return must(term.Eq(a, b))
}
func equal(a, b api.Term) api.Term { return must(hol.Equal(a, b)) }

// rule returns premises and a conclusion; terms of the type bool get Trueprop.
func rule(l ...api.Term) api.Term {
	for i, t := range l {
		if types.Equal(must(term.TypeOf(t)), boolean()) {
			l[i] = hol.Truth(t)
		}
	}
	r := l[len(l)-1]
	for _, a := range slices.Backward(l[:len(l)-1]) {
		r = term.Imp(a, r)
	}
	return r
}

// stated returns a theorem by the oracle, assumed one from itself.
func stated(l ...api.Term) kernel.Theorem { return must(kernel.Oracle(askThy, "trust", rule(l...))) }
func assumed(l ...api.Term) kernel.Theorem {
	return must(kernel.Assume(askThy, rule(l...)))
}

// ground returns a random term of True, False and the connectives.
func ground(r *rand.Rand, depth int) api.Term {
	if depth == 0 {
		return []api.Term{hol.True(), hol.False()}[r.Intn(2)]
	}
	a := ground(r, r.Intn(depth))
	switch r.Intn(4) {
	case 0:
		return hol.Not(a)
	case 1:
		return hol.And(a, ground(r, r.Intn(depth)))
	case 2:
		return hol.Or(a, ground(r, r.Intn(depth)))
	}
	return hol.Implies(a, ground(r, r.Intn(depth)))
}

// checked looks whether the checker takes the proof of a theorem.
func checked(t *testing.T, th kernel.Theorem) {
	t.Helper()
	s, e := checker.Check(th.Theory(), th.Proof())
	if e != api.OK || !checker.Same(s, checker.Sequent{Hyps: th.Hyps(), Prop: th.Prop(), Oracles: th.Oracles()}) {
		t.Fatal("the checker", e)
	}
}

// want looks whether a theorem states t == u.
func want(t *testing.T, name any, th kernel.Theorem, e api.Errno, a, b api.Term) {
	t.Helper()
	if e != api.OK {
		t.Error(name, e)
		return
	}
	checked(t, th)
	if !term.Equal(th.Prop(), eq(a, b)) {
		t.Error(name, must(term.Text(th.Prop())))
	}
}

// P21.5: Standard decides ground terms.
func TestDecided(t *testing.T) {
	r := rand.New(rand.NewSource(1))
	s := must(simp.Standard(hol.HOL()))
	for range 100 {
		x := ground(r, 4)
		v := hol.False()
		if y, _, _ := classical.Tautology(x); y {
			v = hol.True()
		}
		th, e := simp.Rewrite(hol.HOL(), s, nil, x, r.Intn(3), 500)
		want(t, "decided", th, e, x, v)
	}
}

func TestStandard(t *testing.T) {
	s := must(simp.Standard(askThy))
	if len(s.Rules) != 20 || len(s.Congs) != 3 || len(s.Procs) != 0 || simp.Check(askThy, s) != api.OK {
		t.Error(len(s.Rules), len(s.Congs))
	}
	p := schem("P", 0, boolean())
	if !term.Equal(s.Rules[0].Prop(), eq(hol.Not(hol.Not(p)), p)) || !term.Equal(s.Rules[15].Prop(), rule(eq(equal(schem("x", 0, api.Type{Op: api.TVar, Name: "a"}), schem("x", 0, api.Type{Op: api.TVar, Name: "a"})), hol.True()))) {
		t.Error("the rules")
	}
	q, p2, q2 := schem("Q", 0, boolean()), schem("P'", 0, boolean()), schem("Q'", 0, boolean())
	if !term.Equal(s.Congs[0].Prop(), rule(eq(p, p2), rule(p2, eq(q, q2)), eq(hol.And(p, q), hol.And(p2, q2)))) {
		t.Error(must(term.Text(s.Congs[0].Prop())))
	}
	for _, th := range append(s.Rules, s.Congs...) {
		checked(t, th)
		if th.Theory().Name != "T" {
			t.Error("the theory")
		}
	}
	if _, e := simp.Standard(theory.Pure()); e != api.ErrTheory {
		t.Error(e)
	}
	if _, e := simp.Standard(api.Theory{}); e != api.ErrForm {
		t.Error(e)
	}
}

func TestExamples(t *testing.T) {
	p, q := free("P", boolean()), free("Q", boolean())
	s := must(simp.Standard(hol.HOL()))
	x := hol.And(p, hol.Implies(p, q))
	th, e := simp.Rewrite(hol.HOL(), s, nil, x, 2, 100)
	want(t, "And", th, e, x, hol.And(p, q))
	set := simp.Set{Rules: []kernel.Theorem{stated(c("le", n("n"), n("m")), eq(c("f", n("n"), n("m")), n("m"))), stated(eq(c("le", c("Zero"), n("n")), hol.True()))}}
	y := c("f", c("Zero"), c("a"))
	th, e = simp.Rewrite(askThy, set, nil, y, 1, 2)
	want(t, "f", th, e, y, c("a"))
	if !slices.Equal(th.Oracles(), []string{"trust"}) {
		t.Error(th.Oracles())
	}
	th, e = simp.Rewrite(askThy, set, nil, y, 0, 2) // no condition holds
	want(t, "depth", th, e, y, y)
	if _, e := simp.Rewrite(askThy, set, nil, y, 1, 1); e != api.ErrFuel {
		t.Error(e)
	}
	if _, e := simp.Rewrite(askThy, set, nil, y, 0, 0); e != api.ErrFuel {
		t.Error(e)
	}
	th, e = simp.Rewrite(askThy, set, nil, c("a"), 0, 0)
	want(t, "nothing", th, e, c("a"), c("a"))
}

func TestExtract(t *testing.T) {
	p, q := schem("P", 0, boolean()), free("q", boolean())
	x, y := n("x"), n("y")
	pz := func(v api.Term) api.Term { return c("p", v) }
	all := must(hol.All(free("z", nat()), hol.Implies(pz(free("z", nat())), equal(c("f", free("z", nat()), x), x))))
	fun := free("F", types.Fun(nat(), boolean()))
	overFun := term.Apps(all.Kids[0], []api.Term{fun})
	nameless := term.Lift(all, 0)
	nameless.Kids[1].Name = ""
	z1, x1 := schem("z", 1, nat()), schem("x", 1, nat())
	for i, v := range []struct {
		th   kernel.Theorem
		want []api.Term
	}{
		{stated(eq(c("a"), c("b"))), []api.Term{eq(c("a"), c("b"))}},
		{stated(eq(x, c("b"))), nil},
		{stated(eq(c("f", x, x), y)), nil},
		{stated(hol.True()), nil}, {stated(q), []api.Term{eq(q, hol.True())}}, {stated(p), nil}, {stated(hol.False()), []api.Term{eq(hol.False(), hol.True())}},
		{stated(hol.Not(q)), []api.Term{eq(q, hol.False())}}, {stated(hol.Not(hol.Not(q))), []api.Term{eq(hol.Not(q), hol.False())}}, {stated(hol.Not(p)), nil},
		{stated(hol.And(q, hol.And(hol.Not(q), hol.Or(q, q)))), []api.Term{eq(q, hol.True()), eq(q, hol.False()), eq(hol.Or(q, q), hol.True())}},
		{stated(hol.Implies(hol.And(q, q), hol.Not(q))), []api.Term{rule(hol.And(q, q), eq(q, hol.False()))}},
		{stated(equal(c("f", x, y), x)), []api.Term{eq(c("f", x, y), x)}}, {stated(equal(c("a"), x)), []api.Term{eq(equal(c("a"), x), hol.True())}}, {stated(equal(x, x)), []api.Term{eq(equal(x, x), hol.True())}}, {stated(equal(x, c("a"))), []api.Term{eq(equal(x, c("a")), hol.True())}},
		{stated(hol.Not(equal(x, c("a")))), []api.Term{eq(equal(x, c("a")), hol.False())}},
		{stated(q, all), []api.Term{rule(q, pz(z1), eq(c("f", z1, x), x))}}, {stated(nameless), []api.Term{rule(pz(x1), eq(c("f", x1, x), x))}},
		{stated(overFun), []api.Term{eq(term.Apps(fun, []api.Term{schem("x", 0, nat())}), hol.True())}},
		{stated(eq(c("a"), c("b")), eq(c("b"), c("a"))), nil}, {stated(pz(y), eq(c("f", x, x), x)), nil}, {assumed(q), []api.Term{eq(q, hol.True())}}, {stated(term.Protect(hol.Truth(q))), nil},
		{stated(q, q, q, q, q, q, q, q, q, q, q), []api.Term{rule(q, q, q, q, q, q, q, q, q, q, eq(q, hol.True()))}}, {stated(q, q, q, q, q, q, q, q, q, q, q, q), nil},
		{assumed(q, hol.And(q, q)), []api.Term{rule(q, eq(q, hol.True())), rule(q, eq(q, hol.True()))}},
	} {
		l, e := simp.Extract(askThy, v.th)
		if e != api.OK || len(l) != len(v.want) {
			t.Error(i, e, len(l))
			continue
		}
		for k, th := range l {
			checked(t, th)
			if !term.Equal(th.Prop(), v.want[k]) || !slices.EqualFunc(th.Hyps(), v.th.Hyps(), term.Equal) || !slices.Equal(th.Oracles(), v.th.Oracles()) {
				t.Error(i, k, must(term.Text(th.Prop())))
			}
		}
		if e := simp.Check(askThy, simp.Set{Rules: l}); e != api.OK {
			t.Error(i, e)
		}
	}
	big := q
	for range 80 {
		big = hol.And(big, q)
	}
	for i, v := range []struct {
		thy  api.Theory
		th   kernel.Theorem
		want api.Errno
	}{
		{api.Theory{}, kernel.Theorem{}, api.ErrForm}, {theory.Pure(), kernel.Theorem{}, api.ErrTheory}, {askThy, kernel.Theorem{}, kernel.ErrNone}, {hol.HOL(), stated(q), api.ErrTheory}, {askThy, stated(big), api.OK}, {askThy, stated(hol.And(big, hol.And(big, big))), api.ErrLarge},
	} {
		if _, e := simp.Extract(v.thy, v.th); e != v.want {
			t.Error(i, e, v.want)
		}
		if _, e := simp.Ordered(v.thy, v.th); e != v.want && i < 4 {
			t.Error(i, e)
		}
		if _, e := simp.Cong(v.thy, v.th); e != v.want && i < 4 {
			t.Error(i, e)
		}
	}
}

func TestOrdered(t *testing.T) {
	x, y := n("x"), n("y")
	for i, v := range []struct {
		th kernel.Theorem
		is bool
		e  api.Errno
	}{
		{stated(eq(c("f", x, y), c("f", y, x))), true, 0}, {stated(eq(c("f", x, y), x)), false, 0}, {stated(eq(c("f", x, c("f", y, x)), c("f", y, c("f", x, y)))), true, 0}, {stated(eq(c("f", x, y), c("f", x, x))), false, 0}, {stated(eq(c("a"), c("a"))), true, 0},
		{stated(eq(x, x)), false, simp.ErrRule}, {stated(hol.True()), false, simp.ErrRule},
	} {
		if is, e := simp.Ordered(askThy, v.th); is != v.is || e != v.e {
			t.Error(i, is, e)
		}
	}
	set := simp.Set{Rules: []kernel.Theorem{stated(eq(c("f", x, y), c("f", y, x)))}}
	for _, v := range [][2]api.Term{{c("f", c("b"), c("a")), c("f", c("a"), c("b"))}, {c("f", c("a"), c("b")), c("f", c("a"), c("b"))}} {
		th, e := simp.Rewrite(askThy, set, nil, v[0], 0, 5)
		want(t, "ordered", th, e, v[0], v[1])
	}
}

func TestCong(t *testing.T) {
	x, y, x2, y2 := n("x"), n("y"), schem("x", 1, nat()), schem("y", 1, nat())
	f := func(a, b api.Term) api.Term { return c("f", a, b) }
	for i, v := range []struct {
		th kernel.Theorem
		e  api.Errno
	}{
		{stated(equal(x, x2), rule(c("p", x2), equal(y, y2)), equal(f(x, y), f(x2, y2))), 0},
		{stated(equal(x, x2), equal(f(x, y), f(x2, y))), 0}, {stated(equal(f(x, y), f(x, y))), 0}, {stated(eq(x, x2), equal(f(x, y), f(x2, y))), 0},
		{stated(equal(x, x2), equal(f(x, y), f(x2, y2))), simp.ErrRule}, {stated(equal(x, x2), equal(x, x2), equal(f(x, y), f(x2, y))), simp.ErrRule}, {stated(equal(x, x2), equal(f(x, x), f(x2, x2))), simp.ErrRule}, {stated(equal(x, x2), equal(f(x, c("a")), f(x2, c("a")))), simp.ErrRule},
		{stated(equal(x, y), equal(f(x, y), f(y, y))), simp.ErrRule}, {stated(equal(x, x2), equal(y, x2), equal(f(x, y), f(x2, x2))), simp.ErrRule},
		{stated(rule(c("p", y2), equal(x, x2)), equal(y, y2), equal(f(x, y), f(x2, y2))), simp.ErrRule}, {stated(rule(c("p", x2), equal(x, x2)), equal(f(x, y), f(x2, y))), simp.ErrRule}, {stated(rule(eq(x, x), equal(x, x2)), equal(f(x, y), f(x2, y))), simp.ErrRule},
		{stated(equal(x2, x), equal(f(x, y), f(x2, y))), simp.ErrRule}, {stated(equal(y, y), equal(f(x, y), f(x, y))), simp.ErrRule}, {stated(c("p", x), equal(f(x, y), f(x, y))), simp.ErrRule}, {stated(eq(f(x, y), f(x, y))), simp.ErrRule}, {stated(c("p", x)), simp.ErrRule},
		{stated(equal(c("a"), c("a"))), simp.ErrRule}, {stated(equal(f(x, y), f(y, x))), simp.ErrRule}, {stated(equal(x, x2), equal(c("plus", x, y), f(x2, y))), simp.ErrRule},
	} {
		th, e := simp.Cong(askThy, v.th)
		if e != v.e || th.Is() != (e == 0) {
			t.Error(i, e)
			continue
		}
		if e == 0 {
			checked(t, th)
			if e := simp.Check(askThy, simp.Set{Congs: []kernel.Theorem{th}}); e != api.OK {
				t.Error(i, e)
			}
		}
	}
	th := must(simp.Cong(askThy, assumed(rule(c("p", x), equal(x, x2)), equal(f(x, y), f(x2, y)))))
	if !term.Equal(th.Prop(), rule(rule(c("p", x), eq(x, x2)), eq(f(x, y), f(x2, y)))) || len(th.Hyps()) != 1 {
		t.Error(must(term.Text(th.Prop())))
	}
}

func TestSetErrors(t *testing.T) {
	good := stated(eq(c("a"), c("b")))
	many := make([]kernel.Theorem, simp.MaxRules+1)
	for i := range many {
		many[i] = good
	}
	id := conv.Expr{Kind: conv.All}
	q := free("q", boolean())
	for i, v := range []struct {
		s simp.Set
		e api.Errno
	}{
		{simp.Set{}, 0}, {simp.Set{Rules: many[1:]}, 0}, {simp.Set{Rules: many}, api.ErrCount}, {simp.Set{Congs: many, Rules: make([]kernel.Theorem, 1)}, api.ErrCount}, {simp.Set{Procs: make([]simp.Proc, 101), Rules: make([]kernel.Theorem, 1)}, api.ErrCount},
		{simp.Set{Rules: []kernel.Theorem{good, {}}}, kernel.ErrNone}, {simp.Set{Rules: []kernel.Theorem{stated(q), {}}}, simp.ErrRule}, {simp.Set{Rules: []kernel.Theorem{stated(q)}, Congs: make([]kernel.Theorem, 1)}, simp.ErrRule},
		{simp.Set{Congs: make([]kernel.Theorem, 1), Procs: make([]simp.Proc, 1)}, kernel.ErrNone}, {simp.Set{Congs: []kernel.Theorem{good}}, simp.ErrRule}, {simp.Set{Procs: make([]simp.Proc, 1)}, api.ErrForm},
		{simp.Set{Procs: []simp.Proc{{Pattern: q}}}, api.ErrForm}, {simp.Set{Procs: []simp.Proc{{Pattern: q, Expr: id}}}, 0}, {simp.Set{Procs: []simp.Proc{{Pattern: q, Expr: id, Rules: many[:50]}}}, 0}, {simp.Set{Procs: []simp.Proc{{Pattern: q, Expr: id, Rules: many[:51]}}}, api.ErrCount},
	} {
		if e := simp.Check(askThy, v.s); e != v.e {
			t.Error(i, e, v.e)
		}
		if _, e := simp.Rewrite(askThy, v.s, make([]kernel.Theorem, 200), api.Term{}, -1, -1); e != v.e && (v.e != 0 || e != api.ErrCount) {
			t.Error(i, e)
		}
	}
	for i, v := range []struct {
		thy         api.Theory
		assumed     []kernel.Theorem
		t           api.Term
		depth, fuel int
		e           api.Errno
	}{
		{theory.Pure(), nil, q, 0, 0, api.ErrTheory}, {askThy, many, q, 0, 0, api.ErrCount}, {askThy, make([]kernel.Theorem, 1), api.Term{}, 0, 0, kernel.ErrNone}, {askThy, nil, api.Term{}, -1, 0, api.ErrForm},
		{askThy, nil, q, -1, 0, api.ErrRange}, {askThy, nil, q, simp.MaxDepth + 1, 0, api.ErrRange}, {askThy, nil, q, 0, -1, api.ErrRange}, {askThy, nil, q, 0, simp.MaxFuel + 1, api.ErrRange}, {askThy, nil, q, simp.MaxDepth, simp.MaxFuel, 0},
	} {
		if _, e := simp.Rewrite(v.thy, simp.Set{}, v.assumed, v.t, v.depth, v.fuel); e != v.e {
			t.Error(i, e, v.e)
		}
	}
}

func TestRewrite(t *testing.T) {
	x, y := n("x"), n("y")
	a, b, zero := c("a"), c("b"), c("Zero")
	f := func(a, b api.Term) api.Term { return c("f", a, b) }
	fz := free("z", nat())
	under := func(t api.Term) api.Term { return must(hol.All(fz, equal(t, fz))) }
	redex := api.Term{Op: api.App, Kids: []api.Term{{Op: api.Abs, Type: nat(), Kids: []api.Term{f(api.Term{Op: api.Bound}, b)}}, a}}
	q := free("q", boolean())
	std := must(simp.Standard(askThy))
	proc := simp.Proc{Pattern: f(x, x), Rules: []kernel.Theorem{stated(eq(f(x, y), x))}, Expr: conv.Expr{Kind: conv.Rule}}
	for i, v := range []struct {
		s       simp.Set
		assumed []kernel.Theorem
		t, want api.Term
	}{
		{simp.Set{Rules: []kernel.Theorem{stated(eq(f(x, y), x))}}, nil, f(f(a, b), b), a},
		{simp.Set{Rules: []kernel.Theorem{stated(eq(f(x, y), x))}}, nil, under(f(fz, a)), under(fz)},
		{simp.Set{Rules: []kernel.Theorem{stated(eq(f(x, y), x))}}, nil, redex, a},
		{simp.Set{}, nil, redex, f(a, b)},
		{simp.Set{Rules: []kernel.Theorem{stated(eq(a, b))}}, []kernel.Theorem{stated(equal(a, zero))}, a, zero}, // assumptions first
		{simp.Set{Rules: []kernel.Theorem{stated(eq(a, b)), stated(eq(b, zero)), stated(eq(a, zero))}}, nil, f(a, b), f(zero, zero)},
		{simp.Set{Rules: []kernel.Theorem{stated(eq(a, a)), stated(eq(a, b))}}, nil, a, b},
		{simp.Set{Procs: []simp.Proc{proc}}, nil, f(f(a, a), a), a}, {simp.Set{Procs: []simp.Proc{proc}}, nil, f(a, b), f(a, b)},
		{std, []kernel.Theorem{stated(q)}, hol.Implies(q, c("p", a)), c("p", a)},
		{std, nil, hol.Implies(equal(a, b), c("p", a)), hol.Implies(equal(a, b), c("p", b))},
		{std, nil, must(hol.If(q, hol.And(q, c("p", a)), q)), must(hol.If(q, c("p", a), hol.False()))},
		{std, nil, must(hol.If(equal(a, a), a, b)), a},
		{std, nil, hol.And(hol.Not(q), hol.Or(q, c("p", a))), hol.And(hol.Not(q), c("p", a))},
		// an assumption with a variable has no equations
		{std, nil, hol.And(c("p", x), c("p", x)), hol.And(c("p", x), c("p", x))},
	} {
		th, e := simp.Rewrite(askThy, v.s, v.assumed, v.t, 2, 50)
		want(t, i, th, e, v.t, v.want)
	}
	// what is simplified and what is large
	wide := b
	for range 100 {
		wide = f(wide, b)
	}
	wider := wide
	for range 20 {
		wider = f(b, wider)
	}
	tower := b
	for range 7 {
		tower = f(tower, tower)
	}
	for i, v := range []struct {
		right api.Term
		e     api.Errno
	}{{f(b, b), api.OK}, {wide, api.ErrLarge}, {wider, api.ErrLarge}, {tower, api.ErrLarge}, {tower.Kids[1], api.OK}} {
		set := simp.Set{Rules: []kernel.Theorem{stated(eq(a, v.right))}}
		if _, e := simp.Rewrite(askThy, set, nil, a, 0, 500); e != v.e {
			t.Error(i, e)
		}
	}
	set := simp.Set{Rules: []kernel.Theorem{stated(eq(f(x, y), f(f(x, y), f(x, y))))}}
	if _, e := simp.Rewrite(askThy, set, nil, f(a, b), 0, 500); e != api.ErrFuel {
		t.Error(e)
	}
	deep := a
	for range 49 {
		deep = c("Suc", deep)
	}
	if _, e := simp.Rewrite(askThy, simp.Set{}, nil, deep, 0, 0); e != api.OK {
		t.Error(e)
	}
	if _, e := simp.Rewrite(askThy, simp.Set{}, nil, c("Suc", deep), 0, 0); e != api.ErrLarge {
		t.Error(e)
	}
	loop := simp.Set{Rules: []kernel.Theorem{stated(eq(a, b)), stated(eq(b, a))}}
	if _, e := simp.Rewrite(askThy, loop, nil, a, 0, 100); e != api.ErrFuel {
		t.Error(e)
	}
	// a hypothesis with a variable cannot go below an abstraction
	hyp := simp.Set{Rules: []kernel.Theorem{assumed(eq(f(x, a), x))}}
	th, e := simp.Rewrite(askThy, hyp, nil, f(b, a), 0, 5)
	want(t, "a hypothesis", th, e, f(b, a), b)
	if h := th.Hyps(); len(h) != 1 || !term.Equal(h[0], eq(f(b, a), b)) {
		t.Error(h)
	}
	if _, e := simp.Rewrite(askThy, hyp, nil, under(f(fz, a)), 0, 5); e != api.ErrFail {
		t.Error(e)
	}
}

func TestSimplify(t *testing.T) {
	std := must(simp.Standard(askThy))
	q := free("q", boolean())
	th, e := simp.Simplify(askThy, std, assumed(hol.And(q, q)), 1, 50)
	if e != api.OK || !term.Equal(th.Prop(), hol.Truth(q)) && !term.Equal(th.Prop(), hol.Truth(hol.And(q, hol.True()))) {
		t.Error(e)
	}
	checked(t, th)
	if !term.Equal(th.Prop(), hol.Truth(q)) || len(th.Hyps()) != 1 {
		t.Error(must(term.Text(th.Prop())))
	}
	for i, e := range []api.Errno{
		code(simp.Simplify(theory.Pure(), simp.Set{Rules: make([]kernel.Theorem, 1)}, kernel.Theorem{}, -1, 0)), code(simp.Simplify(askThy, simp.Set{Rules: make([]kernel.Theorem, 200)}, kernel.Theorem{}, -1, 0)),
		code(simp.Simplify(hol.HOL(), simp.Set{}, stated(q), -1, 0)), code(simp.Simplify(askThy, simp.Set{Rules: make([]kernel.Theorem, 200)}, stated(q), -1, 0)), code(simp.Simplify(askThy, simp.Set{}, stated(q), -1, 0)),
	} {
		if want := []api.Errno{api.ErrTheory, kernel.ErrNone, api.ErrTheory, api.ErrCount, api.ErrRange}[i]; e != want {
			t.Error(i, e, want)
		}
	}
}

func code(_ kernel.Theorem, e api.Errno) api.Errno { return e }

func TestSplit(t *testing.T) {
	p, q := free("p", boolean()), free("q", boolean())
	a, b := c("a"), c("b")
	pred := func(x api.Term) api.Term { return c("p", x) }
	ite := func(c, x, y api.Term) api.Term { return must(hol.If(c, x, y)) }
	cases := func(q, x, y api.Term) api.Term { return hol.And(hol.Implies(q, x), hol.Implies(hol.Not(q), y)) }
	z := free("z", nat())
	inner := ite(p, a, b)
	redex := api.Term{Op: api.App, Kids: []api.Term{{Op: api.Abs, Type: nat(), Kids: []api.Term{pred(api.Term{Op: api.Bound})}}, inner}}
	redexWith := func(x api.Term) api.Term { return api.Term{Op: api.App, Kids: []api.Term{redex.Kids[0], x}} }
	for i, v := range []struct{ t, want api.Term }{
		{pred(inner), cases(p, pred(a), pred(b))}, {equal(inner, inner), cases(p, equal(a, a), equal(b, b))},
		{ite(q, pred(inner), p), cases(q, pred(inner), p)},
		{equal(ite(p, a, b), ite(q, a, b)), cases(p, equal(a, ite(q, a, b)), equal(b, ite(q, a, b)))},
		{must(hol.All(z, pred(ite(p, z, inner)))), cases(p, must(hol.All(z, pred(ite(p, z, a)))), must(hol.All(z, pred(ite(p, z, b)))))},
		{redex, cases(p, redexWith(a), redexWith(b))},
		{term.Apps(ite(p, free("g", types.Fun(nat(), boolean())), free("h", types.Fun(nat(), boolean()))), []api.Term{a}), cases(p, term.Apps(free("g", types.Fun(nat(), boolean())), []api.Term{a}), term.Apps(free("h", types.Fun(nat(), boolean())), []api.Term{a}))},
	} {
		th, e := simp.Split(askThy, v.t)
		want(t, i, th, e, v.t, v.want)
	}
	for i, v := range []struct {
		thy api.Theory
		t   api.Term
		e   api.Errno
	}{
		{theory.Pure(), api.Term{}, api.ErrTheory}, {askThy, api.Term{}, api.ErrForm}, {askThy, inner, api.ErrType}, {askThy, p, api.ErrFail}, {askThy, must(hol.All(z, pred(ite(p, z, a)))), api.ErrFail}, {askThy, hol.Truth(pred(inner)), api.ErrType},
	} {
		if th, e := simp.Split(v.thy, v.t); e != v.e || th.Is() {
			t.Error(i, e, v.e)
		}
	}
}

// state returns a state with some subgoals.
func state(l ...api.Term) kernel.Theorem {
	return stated(append(l, term.Protect(hol.Truth(free("goal", boolean()))))...)
}

func TestGoal(t *testing.T) {
	std := must(simp.Standard(askThy))
	p, q := free("p", boolean()), free("q", boolean())
	a, b := c("a"), c("b")
	x, y := free("x", nat()), free("y", nat())
	pred := func(x api.Term) api.Term { return c("p", x) }
	ite := func(c, x, y api.Term) api.Term { return must(hol.If(c, x, y)) }
	over := func(x, t api.Term) api.Term { return term.All(x, t) }
	for i, v := range []struct {
		goal   api.Term
		want   api.Term
		solved bool
		e      api.Errno
	}{
		{rule(q, hol.And(p, q)), rule(q, p), false, 0}, {rule(q, q), api.Term{}, true, 0}, {rule(q, p), api.Term{}, false, api.ErrFail}, {rule(hol.True()), api.Term{}, false, api.ErrFail}, {rule(p), api.Term{}, false, api.ErrFail},
		{over(x, rule(equal(x, a), pred(x))), over(x, rule(equal(x, a), pred(a))), false, 0},
		{rule(equal(b, a), over(x, rule(hol.And(pred(b), equal(x, x))))), over(x, rule(equal(b, a), pred(a))), false, 0}, // flat
		{rule(hol.Implies(p, hol.Implies(q, p))), api.Term{}, true, 0},
		{rule(hol.Implies(hol.And(p, q), q)), api.Term{}, true, 0},
		{over(y, rule(pred(ite(p, y, a)))), over(y, rule(hol.And(hol.Implies(p, pred(y)), hol.Implies(hol.Not(p), pred(a))))), false, 0},
		{rule(pred(schem("v", 0, nat())), hol.And(p, pred(schem("v", 0, nat())))), api.Term{}, false, api.ErrFail},
		{rule(equal(a, b), eq(a, a)), rule(equal(a, b), eq(b, b)), false, 0},
		{rule(pred(ite(hol.Not(hol.Not(p)), a, a))), rule(hol.And(hol.Implies(p, pred(a)), hol.Implies(hol.Not(p), pred(a)))), false, 0},
	} {
		th, solved, e := simp.Goal(std, state(q, v.goal, p), 1, 2, 50)
		if e != v.e || solved != v.solved || th.Is() != (e == 0) {
			t.Error(i, solved, e)
			continue
		}
		if e != api.OK {
			continue
		}
		checked(t, th)
		l, _ := term.Strip(th.Prop())
		if want := []api.Term{rule(q), v.want, rule(p)}; !solved && !slices.EqualFunc(l, want, term.Equal) {
			t.Error(i, must(term.Text(l[1])))
		}
		if solved && len(l) != 2 {
			t.Error(i, len(l))
		}
	}
	// as many splits as are permitted, and no more
	chain := a
	for _, v := range []string{"p5", "p4", "p3", "p2", "p1"} {
		chain = ite(free(v, boolean()), chain, b)
	}
	g := pred(chain)
	th, solved, e := simp.Goal(simp.Set{}, state(g), 0, 0, 0)
	l, _ := term.Strip(th.Prop())
	if e != api.OK || solved || countIfs(l[0]) != 1 {
		t.Error(e, solved, countIfs(l[0]))
	}
	checked(t, th)
}

// countIfs returns how many Ifs a term has.
func countIfs(t api.Term) int {
	k := 0
	for x := range term.Nodes(&t) {
		if x.Op == api.Const && x.Name == "If" {
			k++
		}
	}
	return k
}

func TestGoalErrors(t *testing.T) {
	q := free("q", boolean())
	pure := must(kernel.Reflexive(theory.Pure(), free("A", types.Prop())))
	bad := simp.Set{Rules: make([]kernel.Theorem, 1)}
	for i, v := range []struct {
		s           simp.Set
		state       kernel.Theorem
		at          int
		depth, fuel int
		e           api.Errno
	}{
		{bad, kernel.Theorem{}, -1, -1, 0, kernel.ErrNone}, {bad, pure, -1, -1, 0, api.ErrTheory}, {bad, state(q), -1, -1, 0, kernel.ErrNone}, {simp.Set{}, state(q), -1, -1, 0, resolve.ErrSubgoal}, {simp.Set{}, state(q), 1, -1, 0, resolve.ErrSubgoal},
		{simp.Set{}, state(q), 0, -1, 0, api.ErrRange}, {simp.Set{}, state(q), 0, 0, 2001, api.ErrRange}, {simp.Set{}, state(q), 0, 0, 0, api.ErrFail}, {must(simp.Standard(askThy)), state(hol.And(q, hol.True())), 0, 0, 0, api.ErrFuel},
	} {
		th, solved, e := simp.Goal(v.s, v.state, v.at, v.depth, v.fuel)
		if e != v.e || th.Is() || solved {
			t.Error(i, e, v.e)
		}
	}
	s := must(tactic.Goal(askThy, hol.Truth(hol.Implies(q, q))))
	th, solved, e := simp.Goal(must(simp.Standard(askThy)), s, 0, 0, 9)
	if e != api.OK || !solved {
		t.Fatal(e)
	}
	if th = must(tactic.Conclude(th)); !term.Equal(th.Prop(), hol.Truth(hol.Implies(q, q))) {
		t.Error("the goal")
	}
	checked(t, th)
}

// Equations at all types, in terms with schematic variables and type variables of the same names.
func TestPolymorphic(t *testing.T) {
	std := must(simp.Standard(askThy))
	va := api.Type{Op: api.TVar, Name: "a"}
	for i, typ := range []api.Type{va, {Op: api.TFree, Name: "b"}, types.Fun(va, nat()), {Op: api.TVar, Name: "a", Index: 7}} {
		x, y := schem("x", 0, typ), schem("y", 3, typ)
		p := schem("P", 0, boolean())
		th, e := simp.Rewrite(askThy, std, nil, hol.And(p, equal(x, x)), 1, 50)
		want(t, i, th, e, hol.And(p, equal(x, x)), p)
		th, e = simp.Rewrite(askThy, std, nil, must(hol.If(equal(x, x), equal(x, y), p)), 1, 50)
		want(t, i, th, e, must(hol.If(equal(x, x), equal(x, y), p)), equal(x, y))
		sp, e := simp.Split(askThy, equal(must(hol.If(p, x, y)), y))
		want(t, i, sp, e, equal(must(hol.If(p, x, y)), y), hol.And(hol.Implies(p, equal(x, y)), hol.Implies(hol.Not(p), equal(y, y))))
		cv, e := conv.Run(askThy, std.Rules, conv.Expr{Kind: conv.Bottom, Kids: []conv.Expr{{Kind: conv.Rule, Num: 15}}}, hol.Not(equal(x, x)), 9)
		want(t, i, cv, e, hol.Not(equal(x, x)), hol.Not(hol.True()))
	}
	// a function is the same as its eta expansion, where a left side is matched
	f := free("h", types.Fun(nat(), nat()))
	long := api.Term{Op: api.Abs, Name: "z", Type: nat(), Kids: []api.Term{{Op: api.App, Kids: []api.Term{f, {Op: api.Bound}}}}}
	th, e := simp.Rewrite(askThy, std, nil, equal(f, long), 0, 50)
	want(t, "eta", th, e, equal(f, long), hol.True())
	set := simp.Set{Rules: []kernel.Theorem{stated(eq(f, free("k", types.Fun(nat(), nat()))))}}
	th, e = simp.Rewrite(askThy, set, nil, long, 0, 50)
	if e != api.OK || !term.Equal(term.Eta(th.Prop().Kids[1]), free("k", types.Fun(nat(), nat()))) {
		t.Error(e)
	}
	checked(t, th)
}
