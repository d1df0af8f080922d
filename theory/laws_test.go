package theory_test

import (
	"math/rand"
	"slices"
	"testing"

	"triforium/api"
	"triforium/term"
	"triforium/theory"
	"triforium/types"
)

// grown extends a theory by random steps, some of which have an error and change nothing.
func grown(t *testing.T, r *rand.Rand, x api.Theory, steps int) api.Theory {
	for range steps {
		y, e := randomStep(r, x)
		if e != api.OK {
			continue
		}
		if f := theory.Check(y); f != api.OK || y.Name != "R" || !theory.Within(x, y) {
			t.Fatal("a step made a theory that is not right", f, keys(y))
		}
		x = y
	}
	return x
}

func randomStep(r *rand.Rand, x api.Theory) (api.Theory, api.Errno) {
	pick := func(l ...string) string { return l[r.Intn(len(l))] }
	at := []api.Type{nat(), con("list", tfree("a")), con("pair", tfree("a"), tfree("b")), con("list", tfree("a", "c"))}[r.Intn(4)]
	switch r.Intn(6) {
	case 0:
		return theory.Extend(x, "R", api.Theory{Types: []api.TypeDecl{{Name: pick("t", "u", "v"), Arity: r.Intn(2)}}, Oracles: []string{pick("p", "q", "trust")}})
	case 1:
		supers := [][]string{nil, {"c"}, {"c", "d"}}[r.Intn(3)]
		return theory.Extend(x, "R", api.Theory{Classes: []api.Class{{Name: pick("e", "f", "g"), Supers: supers}}})
	case 2:
		return theory.Extend(x, "R", api.Theory{Consts: []api.ConstDecl{{Name: pick("k", "l", "m"), Type: []api.Type{nat(), tvar("a"), fun(tvar("a"), nat())}[r.Intn(3)]}}})
	case 3:
		return theory.Define(x, "R", pick("k", "l", "m", "n", "o"), randomRight(r, x, nat(), 3))
	case 4:
		return theory.Overload(x, "R", pick("size", "size", "weight"), at, abs(at, randomRight(r, x, nat(), 2)))
	}
	c := constant(pick("zero", "k", "l"), nat())
	return theory.Extend(x, "R", api.Theory{Axioms: []api.Axiom{define(c.Name+"_def", c, randomRight(r, x, nat(), 2))}})
}

// randomRight returns a term of the type nat without variables of its own.
func randomRight(r *rand.Rand, x api.Theory, u api.Type, depth int) api.Term {
	if depth == 0 || r.Intn(4) == 0 {
		var l []api.Term
		for _, c := range x.Consts {
			if types.Equal(c.Type, u) {
				l = append(l, constant(c.Name, u))
			}
		}
		return l[r.Intn(len(l))]
	}
	switch at := []api.Type{nat(), con("list", nat()), con("list", con("list", nat())), con("pair", nat(), prop())}[r.Intn(4)]; r.Intn(3) {
	case 0:
		return app(suc(), randomRight(r, x, u, depth-1))
	case 1:
		return app(size(at), constant("top", at))
	default:
		return app(abs(nat(), app(suc(), bound(0))), randomRight(r, x, u, depth-1))
	}
}

func start() api.Theory {
	x := numbers()
	x.Name = "R"
	return x
}

func TestLawsOfWithin(t *testing.T) {
	r := rand.New(rand.NewSource(1))
	for range 60 {
		x := start()
		y := grown(t, r, x, r.Intn(6))
		z := grown(t, r, y, r.Intn(6))
		if !theory.Within(x, x) || !theory.Within(y, y) || !theory.Within(x, y) || !theory.Within(y, z) || !theory.Within(x, z) {
			t.Fatal("Within", keys(z))
		}
		if theory.Within(z, y) && !slices.Equal(keys(y), keys(z)) {
			t.Fatal("more is not within less", keys(y), keys(z))
		}
		m, e := theory.Merge("M", z, y)
		z.Name = "M"
		if e != api.OK || !same(m, z) {
			t.Fatal("a merge with what is within", e, keys(m))
		}
		n, e := theory.Merge("M", y, z)
		if e != api.OK || !theory.Within(n, z) || !theory.Within(z, n) {
			t.Fatal("the other way", e, keys(n))
		}
	}
}

func TestLawsOfMerges(t *testing.T) {
	r := rand.New(rand.NewSource(2))
	good, bad := 0, 0
	for range 400 {
		x := grown(t, r, start(), r.Intn(3))
		a, b := grown(t, r, x, 1+r.Intn(3)), grown(t, r, x, 1+r.Intn(3))
		m, e := theory.Merge("M", a, b)
		n, f := theory.Merge("M", b, a)
		if (e == api.OK) != (f == api.OK) {
			t.Fatal("one order only", e, f, keys(a), keys(b))
		}
		if e != api.OK {
			bad++
			if e != api.ErrTheory && e != theory.ErrDefine || len(keys(m)) != 0 {
				t.Fatal(e)
			}
			continue
		}
		good++
		if !theory.Within(a, m) || !theory.Within(b, m) || !theory.Within(m, n) || !theory.Within(n, m) || theory.Check(m) != api.OK {
			t.Fatal("Merge", keys(m), keys(n))
		}
		for _, k := range keys(m) {
			if !slices.Contains(keys(a), k) && !slices.Contains(keys(b), k) {
				t.Fatal("what none of them has", k)
			}
		}
	}
	if good < 50 || bad < 30 {
		t.Error("too few cases", good, bad)
	}
}

// fits reports whether a definition of a theory fits a constant.
func fits(x api.Theory, c api.Term) bool {
	return slices.ContainsFunc(x.Axioms, func(a api.Axiom) bool {
		left, _, ok := term.IsEq(a.Prop)
		if !ok || a.Kind != api.Defining || left.Name != c.Name {
			return false
		}
		_, e := types.Match(x, left.Type, c.Type, nil)
		return e == api.OK
	})
}

// anyFits reports whether a definition fits a constant of a term.
func anyFits(x api.Theory, u api.Term) bool {
	return u.Op == api.Const && fits(x, u) || slices.ContainsFunc(u.Kids, func(k api.Term) bool { return anyFits(x, k) })
}

func TestLawsOfDefinitions(t *testing.T) {
	r := rand.New(rand.NewSource(3))
	changed := 0
	for range 150 {
		x := grown(t, r, start(), 2+r.Intn(10))
		rhs := randomRight(r, x, nat(), 4)
		y, e := theory.Define(x, "D", "new", rhs)
		if e != api.OK {
			t.Fatal(e)
		}
		u, ok := theory.Const(y, "new")
		if !ok || !types.Equal(u, nat()) {
			t.Fatal("the type", u)
		}
		a, e := theory.Unfolded(y, constant("new", nat()))
		b, f := theory.Unfolded(x, rhs)
		if e != api.OK || f != api.OK || !term.Equal(a, b) {
			t.Fatal("Unfolded of the constant is that of its right side", e, f)
		}
		if anyFits(y, a) {
			t.Fatal("a definition fits", a)
		}
		if v, e := term.Check(y, a); e != api.OK || !types.Equal(v, nat()) {
			t.Fatal("the type is another one", e, v)
		}
		again, e := theory.Unfolded(y, a)
		if e != api.OK || !term.Equal(a, again) {
			t.Fatal("again", e)
		}
		if anyFits(x, rhs) {
			changed++
		} else if !term.Equal(b, rhs) {
			t.Fatal("nothing fits, but there is a change", rhs)
		}
	}
	if changed < 30 {
		t.Error("too few cases", changed)
	}
}

// oddTheory changes a part of a right theory in some way.
func oddTheory(r *rand.Rand) api.Theory {
	x := numbers()
	if r.Intn(3) == 0 {
		x = theory.Pure()
	}
	for range r.Intn(3) {
		switch r.Intn(7) {
		case 0:
			x.Classes = append(x.Classes, api.Class{Name: []string{"", "c", "z"}[r.Intn(3)], Supers: []string{"c"}})
		case 1:
			x.Types = append(x.Types, api.TypeDecl{Name: []string{"", "nat", "z"}[r.Intn(3)], Arity: r.Intn(13) - 1})
		case 2:
			x.Arities = append(x.Arities, api.Arity{Type: "pair", Class: []string{"c", "d", ""}[r.Intn(3)], Sorts: make([][]string, 1+r.Intn(2))})
		case 3:
			x.Consts = append(x.Consts, api.ConstDecl{Name: []string{"", "z", "suc"}[r.Intn(3)], Type: []api.Type{{}, tvar("a"), tfree("a"), nat()}[r.Intn(4)]})
		case 4:
			x.Axioms = append(x.Axioms, api.Axiom{Name: []string{"", "z", "protect_def"}[r.Intn(3)], Kind: r.Intn(5) - 1, Prop: []api.Term{{}, zero(), constant("good", prop()), eq(zero(), app(suc(), zero()))}[r.Intn(4)]})
		case 5:
			x.Oracles = append(x.Oracles, []string{"", "trust", "z"}[r.Intn(3)])
		default:
			x.Name = []string{"", "T"}[r.Intn(2)]
		}
	}
	return x
}

// Behind its own errors Overload has those of Extend by the definition, whatever the type is at which it defines, and the same result.
func TestLawsOfOverload(t *testing.T) {
	r := rand.New(rand.NewSource(5))
	kinds := map[api.Errno]int{}
	for range 2000 {
		x := grown(t, r, start(), r.Intn(4))
		pick := func(l ...string) string { return l[r.Intn(len(l))] }
		at := []api.Type{tfree("a"), tfree("b"), nat(), con("list", tfree("b")), con("list", nat()), con("pair", tfree("a"), tfree("b")), p2(), tfree("a", "c")}[r.Intn(8)]
		c, name := pick("size", "weight"), pick("T", "T", "T", "1", "")
		rhs := abs(at, randomRight(r, x, nat(), 2))
		p := api.Term{Op: api.Abs, Name: "x", Type: schematicType(at), Kids: rhs.Kids}
		more := api.Theory{Axioms: []api.Axiom{define(c+"_"+at.Name+"_def", constant(c, fun(p.Type, nat())), p)}}
		got, e := theory.Overload(x, name, c, at, rhs)
		want, f := theory.Extend(x, name, more)
		if e != f || e == api.OK && !same(got, want) || e != api.OK && len(keys(got)) != 0 {
			t.Fatal(e, f, name, at, keys(x))
		}
		kinds[e]++
	}
	for _, e := range []api.Errno{api.OK, api.ErrForm, theory.ErrDefine, api.ErrDuplicate} {
		if kinds[e] < 20 {
			t.Error("too few cases", e, kinds[e])
		}
	}
}

// schematicType is a type with TVars for its TFrees.
func schematicType(u api.Type) api.Type {
	if u.Op == api.TFree {
		u.Op = api.TVar
	}
	u.Args = slices.Clone(u.Args)
	for i, a := range u.Args {
		u.Args[i] = schematicType(a)
	}
	return u
}

// No function panics, whatever it is given; errors come in their order; and what is returned is right.
func TestAnyTheories(t *testing.T) {
	r := rand.New(rand.NewSource(4))
	for range 1000 {
		x, y := oddTheory(r), oddTheory(r)
		e, f := theory.Check(x), theory.Check(y)
		if !theory.Within(x, x) {
			t.Fatal("Within", keys(x))
		}
		m, g := theory.Merge("M", x, y)
		_, h := theory.Extend(x, "E", y)
		d, i := theory.Define(x, "D", "new", []api.Term{zero(), {}, suc()}[r.Intn(3)])
		o, j := theory.Overload(x, "O", "size", []api.Type{nat(), {}, con("list", tfree("a")), tfree("b")}[r.Intn(4)], abs(nat(), zero()))
		_, k := theory.Unfolded(x, zero())
		if e != api.OK && (g != e || h != e || i != e || j != e || k != e) {
			t.Fatal("the error of the first theory", e, g, h, i, j, k)
		}
		if e == api.OK && f != api.OK && g != f {
			t.Fatal("the error of the second theory", f, g)
		}
		for _, z := range []struct {
			t api.Theory
			e api.Errno
		}{{m, g}, {d, i}, {o, j}} {
			if z.e == api.OK && theory.Check(z.t) != api.OK || z.e != api.OK && (z.t.Name != "" || len(keys(z.t)) != 0) {
				t.Fatal(z.e, keys(z.t))
			}
		}
	}
}
