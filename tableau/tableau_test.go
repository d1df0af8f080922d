package tableau_test

import (
	"math/rand"
	"slices"
	"testing"

	"triforium/api"
	"triforium/checker"
	"triforium/classical"
	"triforium/hol"
	"triforium/kernel"
	"triforium/model"
	"triforium/tableau"
	"triforium/term"
	"triforium/theory"
	"triforium/types"
)

func must[T any](x T, e api.Errno) T {
	if e != api.OK {
		panic(e)
	}
	return x
}

func boolean() api.Type { return hol.BoolType() }
func kind(name string) api.Type {
	return api.Type{Op: api.TCon, Name: name}
}

// thy is HOL with the type t, the constants c, d : t, f : t => t, p : t => bool, r : t => t => bool.
func thy() api.Theory {
	t := kind("t")
	return must(theory.Extend(hol.HOL(), "T", api.Theory{
		Types:  []api.TypeDecl{{Name: "t"}},
		Consts: []api.ConstDecl{{Name: "c", Type: t}, {Name: "d", Type: t}, {Name: "f", Type: types.Fun(t, t)}, {Name: "p", Type: types.Fun(t, boolean())}, {Name: "r", Type: types.Fun(t, types.Fun(t, boolean()))}},
	}))
}

// asked is thy, made once.
var asked = thy()

func con(name string, l ...api.Term) api.Term {
	typ, _ := theory.Const(asked, name)
	return term.Apps(api.Term{Op: api.Const, Name: name, Type: typ}, l)
}

func free(name string, typ api.Type) api.Term { return api.Term{Op: api.Free, Name: name, Type: typ} }
func p(x api.Term) api.Term                   { return con("p", x) }
func eq(a, b api.Term) api.Term               { return must(hol.Equal(a, b)) }
func all(x, t api.Term) api.Term              { return must(hol.All(x, t)) }
func ex(x, t api.Term) api.Term               { return must(hol.Ex(x, t)) }
func x() api.Term                             { return free("x", kind("t")) }
func y() api.Term                             { return free("y", kind("t")) }

// checked looks whether the checker takes the proof of a theorem, and finds what it states.
func checked(t *testing.T, th kernel.Theorem) {
	t.Helper()
	s, e := checker.Check(th.Theory(), th.Proof())
	if e != api.OK || !checker.Same(s, checker.Sequent{Hyps: th.Hyps(), Prop: th.Prop(), Oracles: th.Oracles()}) {
		t.Fatal("the checker", e)
	}
}

func TestKind(t *testing.T) {
	a, b := free("a", boolean()), free("b", boolean())
	n := hol.Not
	set := free("F", types.Fun(kind("t"), boolean()))
	quantify := func(name string, f api.Term) api.Term {
		return api.Term{Op: api.App, Kids: []api.Term{{Op: api.Const, Name: name, Type: types.Fun(types.Fun(kind("t"), boolean()), boolean())}, f}}
	}
	long := func(name string, body api.Term) api.Term {
		return api.Term{Op: api.Abs, Name: name, Type: kind("t"), Kids: []api.Term{body}}
	}
	setX := api.Term{Op: api.App, Kids: []api.Term{set, {Op: api.Bound}}}
	abs := long("z", p(api.Term{Op: api.Bound}))
	loose := api.Term{Op: api.Bound, Num: 3}
	wrongIff := hol.And(a, b)
	wrongIff.Kids[0].Kids[0].Name = "Equal"
	wrongIff.Kids[0].Kids[0].Type = kind("t")
	for i, v := range []struct {
		t     api.Term
		kind  int
		parts []api.Term
	}{
		{n(n(a)), tableau.Twice, []api.Term{a}}, {hol.And(a, b), tableau.Alpha, []api.Term{a, b}}, {n(hol.Or(a, b)), tableau.Alpha, []api.Term{n(a), n(b)}}, {n(hol.Implies(a, b)), tableau.Alpha, []api.Term{a, n(b)}},
		{hol.Or(a, b), tableau.Beta, []api.Term{a, b}}, {hol.Implies(a, b), tableau.Beta, []api.Term{n(a), b}}, {n(hol.And(a, b)), tableau.Beta, []api.Term{n(a), n(b)}},
		{eq(a, b), tableau.Beta, []api.Term{hol.And(a, b), hol.And(n(a), n(b))}}, {n(eq(a, b)), tableau.Beta, []api.Term{hol.And(a, n(b)), hol.And(n(a), b)}},
		{quantify("All", abs), tableau.Gamma, []api.Term{abs}}, {n(quantify("Ex", abs)), tableau.Gamma, []api.Term{long("z", n(p(api.Term{Op: api.Bound})))}}, {quantify("All", set), tableau.Gamma, []api.Term{long("x", setX)}}, {n(quantify("Ex", set)), tableau.Gamma, []api.Term{long("x", n(setX))}},
		{quantify("Ex", abs), tableau.Delta, []api.Term{abs}}, {n(quantify("All", set)), tableau.Delta, []api.Term{long("x", n(setX))}},
		{a, 0, nil}, {n(a), 0, nil}, {hol.True(), 0, nil}, {hol.False(), 0, nil}, {eq(x(), y()), 0, nil}, {n(eq(x(), y())), 0, nil}, {hol.And(a, b).Kids[0], 0, nil}, {api.Term{}, 0, nil}, {loose, 0, nil}, {wrongIff, 0, nil},
		{quantify("All", loose), 0, nil}, {quantify("All", a), 0, nil}, {n(quantify("Ex", con("f"))), 0, nil}, {quantify("Ex", api.Term{Op: api.Abs}), 0, nil}, {term.Apps(quantify("All", abs), []api.Term{a}), 0, nil},
		{hol.And(loose, api.Term{}), tableau.Alpha, []api.Term{loose, {}}}, {n(n(api.Term{Op: 9})), tableau.Twice, []api.Term{{Op: 9}}},
	} {
		k, parts := tableau.Kind(v.t)
		if k != v.kind || !slices.EqualFunc(parts, v.parts, term.Equal) {
			t.Error(i, k, len(parts))
		}
		if (k == tableau.Gamma || k == tableau.Delta) && parts[0].Name != v.parts[0].Name {
			t.Error(i, parts[0].Name)
		}
	}
}

// node returns a node, with a term and Kids.
func node(kind, at, other int, by api.Term, kids ...tableau.Tree) tableau.Tree {
	return tableau.Tree{Kind: kind, At: at, Other: other, Term: by, Kids: kids}
}

func shut(a, b int) tableau.Tree { return node(tableau.Close, a, b, api.Term{}) }

func TestCheck(t *testing.T) {
	a, b := free("a", boolean()), free("b", boolean())
	n, none := hol.Not, api.Term{}
	c, d := con("c"), con("d")
	allP, exP := all(x(), p(x())), ex(x(), p(x()))
	lists := [][]api.Term{{hol.And(a, n(a))}, {allP, n(p(c))}, {exP, n(exP)}, {hol.Or(a, b), n(a), n(b)}, {n(n(hol.False()))}, {n(hol.True()), n(eq(c, c)), n(eq(c, d))}, {all(x(), p(y())), n(p(y()))}, {exP, all(x(), n(p(x()))), p(free("x", kind("t")))}}
	bad := free("x y", kind("t"))
	for i, v := range []struct {
		l int
		t tableau.Tree
		e api.Errno
	}{
		{0, node(tableau.Alpha, 0, 0, none, shut(1, 2)), 0}, {0, node(tableau.Alpha, 0, 0, none, shut(2, 1)), 0}, {0, shut(0, 0), tableau.ErrTree}, {0, node(tableau.Alpha, 0, 0, none, shut(1, 1)), tableau.ErrTree}, {0, node(tableau.Alpha, 0, 0, none, shut(1, 3)), tableau.ErrTree}, {0, node(tableau.Alpha, 0, 0, none, shut(-1, 2)), tableau.ErrTree},
		{0, node(tableau.Alpha, 0, 1, none, shut(1, 2)), tableau.ErrTree}, {0, node(tableau.Alpha, 0, 0, a, shut(1, 2)), tableau.ErrTree}, {0, node(tableau.Alpha, 0, 0, none), tableau.ErrTree}, {0, node(tableau.Alpha, 0, 0, none, shut(1, 2), shut(1, 2)), tableau.ErrTree}, {0, node(tableau.Alpha, 1, 0, none, shut(1, 2)), tableau.ErrTree}, {0, node(tableau.Beta, 0, 0, none, shut(1, 2), shut(1, 2)), tableau.ErrTree},
		{0, node(0, 0, 0, none), tableau.ErrTree}, {0, node(7, 0, 0, none, shut(1, 2)), tableau.ErrTree}, {0, node(tableau.Alpha, 0, 0, none, node(tableau.Close, 1, 2, none, shut(1, 2))), tableau.ErrTree}, {0, node(tableau.Alpha, 0, 0, none, node(tableau.Close, 1, 2, a)), tableau.ErrTree},
		{1, node(tableau.Gamma, 0, 0, c, shut(2, 1)), 0}, {1, node(tableau.Gamma, 0, 0, d, shut(2, 1)), tableau.ErrTree}, {1, node(tableau.Gamma, 0, 0, d, node(tableau.Gamma, 0, 0, c, shut(1, 3))), 0}, {1, node(tableau.Gamma, 0, 0, a, shut(2, 1)), tableau.ErrTree}, {1, node(tableau.Gamma, 0, 0, none, shut(2, 1)), tableau.ErrTree}, {1, node(tableau.Delta, 0, 0, c, shut(2, 1)), tableau.ErrTree},
		{2, shut(0, 1), 0}, {2, shut(1, 0), 0}, {2, node(tableau.Delta, 0, 0, y(), node(tableau.Gamma, 1, 0, y(), shut(2, 3))), 0}, {2, node(tableau.Delta, 0, 0, c, shut(0, 1)), tableau.ErrTree}, {2, node(tableau.Delta, 0, 0, a, shut(0, 1)), tableau.ErrTree}, {2, node(tableau.Delta, 0, 0, bad, shut(0, 1)), tableau.ErrTree}, {2, node(tableau.Delta, 0, 0, y(), node(tableau.Delta, 0, 0, y(), shut(0, 1))), tableau.ErrTree},
		{2, node(tableau.Gamma, 1, 0, free("u", kind("t")), shut(0, 1)), 0}, {2, node(tableau.Gamma, 1, 0, free("u", kind("u")), shut(0, 1)), tableau.ErrTree},
		{3, node(tableau.Beta, 0, 0, none, shut(3, 1), shut(2, 3)), 0}, {3, node(tableau.Beta, 0, 0, none, shut(3, 1), shut(3, 1)), tableau.ErrTree}, {3, node(tableau.Beta, 0, 0, none, shut(3, 1)), tableau.ErrTree},
		{4, node(tableau.Twice, 0, 0, none, shut(1, 1)), 0}, {4, node(tableau.Twice, 0, 0, none, shut(0, 0)), tableau.ErrTree}, {5, shut(0, 0), 0}, {5, shut(1, 1), 0}, {5, shut(2, 2), tableau.ErrTree},
		{6, node(tableau.Gamma, 0, 0, c, shut(1, 2)), 0}, {6, node(tableau.Gamma, 0, 0, free("y", boolean()), shut(1, 2)), tableau.ErrTree}, {7, node(tableau.Delta, 0, 0, x(), shut(3, 2)), tableau.ErrTree},
	} {
		if e := tableau.Check(thy(), lists[v.l], v.t); e != v.e {
			t.Error(i, e, v.e)
		}
		th, e := tableau.Replay(thy(), lists[v.l], v.t)
		if e != v.e || th.Is() != (e == 0) {
			t.Error(i, e)
		}
		if e == api.OK {
			wantRefuted(t, lists[v.l], th)
		}
	}
	if n := tableau.Size(node(9, 0, 0, a, shut(1, 2), node(0, 0, 0, none, shut(1, 1)))); n != 4 {
		t.Error(n)
	}
}

// wantRefuted looks whether a theorem states False from some formulas.
func wantRefuted(t *testing.T, l []api.Term, th kernel.Theorem) {
	t.Helper()
	checked(t, th)
	if !term.Equal(th.Prop(), hol.Truth(hol.False())) || len(th.Oracles()) > 0 {
		t.Error(must(term.Text(th.Prop())))
	}
	for _, h := range th.Hyps() {
		if !slices.ContainsFunc(l, func(f api.Term) bool { return term.Equal(h, hol.Truth(f)) }) {
			t.Error("a hypothesis", must(term.Text(h)))
		}
	}
}

func TestLimits(t *testing.T) {
	a := free("a", boolean())
	chain := shut(0, 0)
	for range tableau.MaxNodes {
		chain = node(tableau.Twice, 0, 0, api.Term{}, chain)
	}
	twice := []api.Term{hol.Not(hol.Not(a)), hol.False()}
	if e := tableau.Check(thy(), twice, chain); e != api.ErrCount {
		t.Error(e)
	}
	short := func(n int) tableau.Tree {
		r := shut(1, 1)
		for range n {
			r = node(tableau.Twice, 0, 0, api.Term{}, r)
		}
		return r
	}
	if e := tableau.Check(thy(), twice, short(58)); e != api.OK {
		t.Error(e)
	}
	if e := tableau.Check(thy(), twice, short(59)); e != tableau.ErrTree {
		t.Error(e)
	}
	nots := a
	for range 30 {
		nots = hol.Not(nots)
	}
	wide := a
	for range 8 {
		wide = hol.And(wide, wide)
	}
	v := free("v", types.Fun(kind("t"), api.Type{Op: api.TFree, Name: "b"}))
	u := free("w", types.Fun(kind("t"), api.Type{Op: api.TFree, Name: "b", Sort: []string{}}))
	for i, x := range []struct {
		thy api.Theory
		l   []api.Term
		e   api.Errno
	}{
		{api.Theory{}, nil, api.ErrForm}, {theory.Pure(), make([]api.Term, 30), api.ErrTheory}, {thy(), make([]api.Term, 21), api.ErrCount}, {thy(), make([]api.Term, 1), api.ErrForm}, {thy(), []api.Term{con("c"), {}}, api.ErrType}, {thy(), []api.Term{nots, {}}, api.ErrLarge}, {thy(), []api.Term{wide}, api.ErrLarge},
		{thy(), []api.Term{a, eq(free("a", kind("t")), con("c"))}, api.ErrType}, {thy(), []api.Term{eq(v, v), eq(u, u)}, api.ErrFail}, {thy(), []api.Term{nots.Kids[1]}, api.ErrFail}, {thy(), nil, api.ErrFail},
	} {
		tree, e := tableau.Search(x.thy, x.l, 2, 200)
		if e != x.e || tree.Kind != 0 {
			t.Error(i, e, x.e)
		}
		if e := tableau.Check(x.thy, x.l, shut(0, 0)); e != x.e && x.e != api.ErrFail {
			t.Error(i, e)
		}
	}
	for i, x := range [][2]int{{-1, 5}, {9, 5}, {0, -1}, {0, 2001}} {
		if _, e := tableau.Search(thy(), nil, x[0], x[1]); e != api.ErrRange {
			t.Error(i, e)
		}
		if _, e := tableau.Prove(thy(), a, x[0], x[1]); e != api.ErrRange {
			t.Error(i, e)
		}
	}
	if _, e := tableau.Search(thy(), []api.Term{hol.False()}, 0, 0); e != api.ErrFail {
		t.Error(e)
	}
	if x, e := tableau.Search(thy(), []api.Term{hol.False()}, 0, 1); e != api.OK || tableau.Size(x) != 1 {
		t.Error(e)
	}
	if _, e := tableau.Prove(thy(), con("c"), 0, 9); e != api.ErrType {
		t.Error(e)
	}
}

func TestProve(t *testing.T) {
	a, b, c := free("a", boolean()), free("b", boolean()), free("c", boolean())
	r := func(x, y api.Term) api.Term { return con("r", x, y) }
	u, v := free("u", kind("t")), free("v", kind("t"))
	set := free("F", types.Fun(kind("t"), boolean()))
	allF := all(x(), p(x()))
	allF.Kids[1] = set
	for i, x := range []api.Term{
		hol.Implies(hol.And(a, b), hol.And(b, a)), eq(eq(a, b), eq(b, a)), eq(eq(a, eq(b, c)), eq(eq(a, b), c)), eq(hol.Not(hol.And(a, b)), hol.Or(hol.Not(a), hol.Not(b))), hol.Implies(all(a, hol.Or(a, b)), b),
		hol.Implies(ex(u, all(v, r(u, v))), all(v, ex(u, r(u, v)))), eq(hol.Not(all(x(), p(x()))), ex(x(), hol.Not(p(x())))), hol.Implies(all(x(), hol.Implies(p(x()), p(con("f", x())))), hol.Implies(p(con("c")), p(con("f", con("f", con("c")))))),
		hol.Implies(allF, all(u, term.Apps(set, []api.Term{u}))), ex(u, hol.Implies(p(u), all(v, p(v)))), hol.Implies(all(u, eq(p(u), a)), hol.Or(all(u, p(u)), hol.Not(a))), ex(u, eq(u, u)), hol.Implies(hol.And(a, hol.True()), hol.Not(hol.Not(a))),
	} {
		th, e := tableau.Prove(thy(), x, 4, 500)
		if e != api.OK || !term.Equal(th.Prop(), hol.Truth(x)) || len(th.Hyps())+len(th.Oracles()) > 0 {
			t.Error(i, e)
			continue
		}
		checked(t, th)
	}
	// the variable of a Delta that stands in no formula
	none := []api.Term{ex(x(), a), all(x(), hol.And(p(x()), hol.Not(p(x()))))}
	if tree, e := tableau.Search(thy(), none, 1, tableau.MaxNodes); e != api.OK || tableau.Check(thy(), none, tree) != api.OK {
		t.Error(e)
	}
	for i, x := range []api.Term{a, hol.Or(a, b), hol.Implies(all(v, ex(u, r(u, v))), ex(u, all(v, r(u, v)))), eq(con("c"), con("d"))} {
		if th, e := tableau.Prove(thy(), x, 3, 500); e != api.ErrFail || th.Is() {
			t.Error(i, e)
		}
	}
}

// formula returns a random formula with variables of the type t.
func formula(r *rand.Rand, depth int, vars []api.Term) api.Term {
	if depth == 0 || r.Intn(5) == 0 {
		return p(vars[r.Intn(len(vars))])
	}
	switch r.Intn(8) {
	case 0, 1:
		return hol.Not(formula(r, depth-1, vars))
	case 2:
		return hol.And(formula(r, depth-1, vars), formula(r, depth-1, vars))
	case 3:
		return hol.Or(formula(r, depth-1, vars), formula(r, depth-1, vars))
	case 4:
		return hol.Implies(formula(r, depth-1, vars), formula(r, depth-1, vars))
	case 5:
		return eq(formula(r, depth-1, vars), formula(r, depth-1, vars))
	case 6:
		return all(x(), formula(r, depth-1, append(slices.Clone(vars), x())))
	}
	return ex(x(), formula(r, depth-1, append(slices.Clone(vars), x())))
}

// finder looks for tableaux by trying all nodes.
type finder struct{ thy api.Theory }

// find reports whether there is a tableau with at most so many nodes, and so many Gammas on a branch; it returns how many nodes it has, which are as few as possible with this first node.
func (f finder) find(branch []api.Term, nodes, gammas int) (int, bool) {
	if nodes <= 0 {
		return 0, false
	}
	for i := range branch {
		for k := range branch {
			if i == k && wrong(branch[i]) || term.Equal(branch[i], hol.Not(branch[k])) {
				return 1, true
			}
		}
	}
	best := nodes + 1
	for i := range branch {
		k, parts := tableau.Kind(branch[i])
		var kids [][]api.Term
		switch k {
		case tableau.Twice, tableau.Alpha:
			kids = [][]api.Term{parts}
		case tableau.Beta:
			kids = [][]api.Term{parts[:1], parts[1:]}
		case tableau.Delta:
			kids = [][]api.Term{{term.Put(parts[0].Kids[0], free("n"+string(rune('a'+len(branch))), kind("t")))}}
		}
		if n, ok := f.kids(branch, kids, best-2, gammas); ok && n+1 < best {
			best = n + 1
		}
		if k == tableau.Gamma && gammas > 0 {
			for _, c := range candidates(branch) {
				if n, ok := f.kids(branch, [][]api.Term{{term.Put(parts[0].Kids[0], c)}}, best-2, gammas-1); ok && n+1 < best {
					best = n + 1
				}
			}
		}
	}
	return best, best <= nodes
}

// wrong reports whether a formula closes a branch by itself.
func wrong(t api.Term) bool {
	_, args := term.Spine(t)
	if term.Equal(t, hol.False()) || term.Equal(t, hol.Not(hol.True())) {
		return true
	}
	if len(args) != 1 || !term.Equal(t, hol.Not(args[0])) {
		return false
	}
	head, sides := term.Spine(args[0])
	return head.Name == "Equal" && term.Equal(sides[0], sides[1])
}

// kids looks for tableaux for all Kids of a node, with so many nodes together.
func (f finder) kids(branch []api.Term, kids [][]api.Term, nodes, gammas int) (int, bool) {
	sum := 0
	for _, more := range kids {
		new := slices.ContainsFunc(more, func(t api.Term) bool {
			return !slices.ContainsFunc(branch, func(u api.Term) bool { return term.Equal(t, u) })
		})
		if !new {
			return 0, false
		}
		n, ok := f.find(append(slices.Clone(branch), more...), nodes-sum, gammas)
		if !ok {
			return 0, false
		}
		sum += n
	}
	return sum, len(kids) > 0
}

// candidates returns the Frees and Consts of the type t on a branch.
func candidates(branch []api.Term) []api.Term {
	var l []api.Term
	for _, t := range branch {
		for n := range term.Nodes(&t) {
			if (n.Op == api.Free || n.Op == api.Const) && types.Equal(n.Type, kind("t")) && !slices.ContainsFunc(l, func(u api.Term) bool { return term.Equal(u, *n) }) {
				l = append(l, *n)
			}
		}
	}
	return l
}

// P23.2 to P23.6 on random formulas.
func TestLaws(t *testing.T) {
	th := thy()
	m := model.Model{Carriers: []model.Carrier{{Name: "t", Cases: make([][]api.Type, 2)}}}
	found, must := 0, 0
	for seed := range int64(600) {
		r := rand.New(rand.NewSource(seed))
		var l []api.Term
		for range 1 + r.Intn(3) {
			l = append(l, formula(r, 1+r.Intn(2), []api.Term{con("c"), y()}))
		}
		tree, e := tableau.Search(th, l, 2, tableau.MaxNodes)
		if e != api.OK && e != api.ErrFail {
			t.Fatal(seed, e)
		}
		if n, ok := (finder{th}).find(l, 5, 2); ok {
			if must++; e != api.OK {
				t.Fatal("not found", seed, n, texts(l))
			}
		}
		if e != api.OK {
			continue
		}
		found++
		if e := tableau.Check(th, l, tree); e != api.OK {
			t.Fatal(seed, e)
		}
		proved, e := tableau.Replay(th, l, tree)
		if e != api.OK {
			t.Fatal(seed, e)
		}
		wantRefuted(t, l, proved)
		wantWeaker(t, l, tree)
		sound(t, th, m, l)
	}
	t.Log(found, must)
	if found < 100 || must < 80 {
		t.Error("too few", found, must)
	}
}

func texts(l []api.Term) (r []string) {
	for _, x := range l {
		r = append(r, must(term.Text(x)))
	}
	return r
}

// wantWeaker looks whether a tableau stays one with a further formula.
func wantWeaker(t *testing.T, l []api.Term, tree tableau.Tree) {
	t.Helper()
	var moved func(tree tableau.Tree) tableau.Tree
	moved = func(tree tableau.Tree) tableau.Tree {
		if tree.At >= len(l) {
			tree.At++
		}
		if tree.Other >= len(l) {
			tree.Other++
		}
		var kids []tableau.Tree
		for _, k := range tree.Kids {
			kids = append(kids, moved(k))
		}
		tree.Kids = kids
		return tree
	}
	if e := tableau.Check(thy(), append(slices.Clone(l), p(con("d"))), moved(tree)); e != api.OK {
		t.Error("weakening", e)
	}
}

// sound looks whether the formulas are not all true in a model.
func sound(t *testing.T, thy api.Theory, m model.Model, l []api.Term) {
	t.Helper()
	for c := range 2 {
		for f := range 4 {
			for d := range 2 {
				m := m
				m.Meanings = []model.Meaning{{Name: "c", How: model.Table, Value: c}, {Name: "d", How: model.Table, Value: d}, {Name: "f", How: model.Table}, {Name: "p", How: model.Table, Value: f}, {Name: "r", How: model.Table}}
				var hyps []api.Term
				for _, x := range l {
					hyps = append(hyps, hol.Truth(x))
				}
				if ok, _, e := model.Holds(thy, m, hyps, hol.Truth(hol.False())); e != api.OK || !ok {
					t.Error("true in a model", e, texts(l))
				}
			}
		}
	}
}

// What is proved of propositions is what is true for all values.
func TestPropositions(t *testing.T) {
	r := rand.New(rand.NewSource(7))
	var build func(depth int) api.Term
	build = func(depth int) api.Term {
		if depth == 0 || r.Intn(5) == 0 {
			return free([]string{"a", "b", "c"}[r.Intn(3)], boolean())
		}
		a, b := build(depth-1), build(depth-1)
		return []api.Term{hol.Not(a), hol.And(a, b), hol.Or(a, b), hol.Implies(a, b), eq(a, b), hol.Or(a, hol.True())}[r.Intn(6)]
	}
	yes := 0
	for range 150 {
		x := build(3)
		is, _, _ := classical.Tautology(x)
		th, e := tableau.Prove(hol.HOL(), x, 0, tableau.MaxNodes)
		if is != (e == api.OK) || !is && e != api.ErrFail {
			t.Fatal(must(term.Text(x)), is, e)
		}
		if is {
			yes++
			checked(t, th)
		}
	}
	if yes < 20 {
		t.Error(yes)
	}
}
