package term_test

import (
	"fmt"
	"math/rand"
	"slices"
	"testing"

	"triforium/api"
	"triforium/term"
	"triforium/types"
)

// randomType returns a type of the signature.
func randomType(r *rand.Rand, depth int) api.Type {
	switch n := r.Intn(8); {
	case n < 2:
		return nat()
	case n == 2:
		return prop()
	case n == 3:
		return tvar("a", r.Intn(2), "c")
	case n == 4:
		return tfree("a")
	case depth > 1:
		return fun(randomType(r, depth-1), randomType(r, depth-1))
	}
	return nat()
}

// typeName makes a name of a type, so that each variable has one type.
func typeName(u api.Type) string {
	s, _ := types.Text(u)
	var b []byte
	for i := range len(s) {
		if s[i] >= 'a' && s[i] <= 'z' || s[i] >= '0' && s[i] <= '9' {
			b = append(b, s[i])
		} else {
			b = append(b, "_ABCDEFGHIJKLMNOP"[s[i]%17])
		}
	}
	if len(b) > 30 {
		b = append(b[:30], fmt.Sprint(len(s))...)
	}
	return string(b)
}

// randomTerm returns a term of a type with abstractions around, of which the innermost is the last.
func randomTerm(r *rand.Rand, u api.Type, around []api.Type, depth int) api.Term {
	var choices []func() api.Term
	add := func(f func() api.Term) { choices = append(choices, f) }
	for i, v := range around {
		if types.Equal(u, v) {
			add(func() api.Term { return bound(len(around) - 1 - i) })
		}
	}
	add(func() api.Term { return free("x"+typeName(u), u) })
	add(func() api.Term { return schematic("x"+typeName(u), r.Intn(2), u) })
	if types.Equal(u, nat()) {
		add(func() api.Term { return constant("zero", nat()) })
		add(func() api.Term { return constant("least", nat()) })
	}
	if args, _ := types.Strip(u); len(args) > 0 && depth > 1 {
		for range 3 {
			add(func() api.Term {
				return abs(u.Args[0], randomTerm(r, u.Args[1], append(slices.Clone(around), u.Args[0]), depth-1))
			})
		}
	}
	if depth > 1 {
		for range 3 {
			add(func() api.Term {
				v := randomType(r, 2)
				return app(randomTerm(r, fun(v, u), around, depth-1), randomTerm(r, v, around, depth-1))
			})
		}
		add(func() api.Term { return app(constant("id", fun(u, u)), randomTerm(r, u, around, depth-1)) })
		v := randomType(r, 2)
		add(func() api.Term { // a redex
			return app(abs(v, randomTerm(r, u, append(slices.Clone(around), v), depth-1)), randomTerm(r, v, around, depth-1))
		})
		if args, result := types.Strip(u); len(args) > 0 && result.Op != 0 { // something for Eta
			add(func() api.Term {
				return abs(u.Args[0], app(term.Lift(randomTerm(r, u, around, depth-1), 1), bound(0)))
			})
		}
	}
	return choices[r.Intn(len(choices))]()
}

func closedTerm(r *rand.Rand) (api.Term, api.Type) {
	u := randomType(r, 3)
	return randomTerm(r, u, nil, 2+r.Intn(4)), u
}

func TestLawsOfTypes(t *testing.T) {
	r, thy := rand.New(rand.NewSource(1)), signature()
	steps := 0
	for range 2500 {
		x, u := closedTerm(r)
		v, e := term.Check(thy, x)
		w, f := term.TypeOf(x)
		if e != api.OK || f != api.OK || !types.Equal(u, v) || !types.Equal(u, w) {
			t.Fatal(e, f, x, u, v, w)
		}
		n, e := term.Norm(x, 2000)
		if e != api.OK {
			t.Fatal("Norm", e)
		}
		for _, y := range append(allSteps(x), n, term.Eta(x), term.Eta(n)) {
			steps++
			if v, e := term.Check(thy, y); e != api.OK || !types.Equal(u, v) {
				t.Fatal("the type is another one", e, x, y)
			}
		}
	}
	if steps < 6000 {
		t.Error("too few steps", steps)
	}
}

// allSteps returns what a term becomes by a step at each redex.
func allSteps(t api.Term) []api.Term {
	var l []api.Term
	if b, ok := term.Beta(t); ok {
		l = append(l, b)
	}
	for i := range t.Kids {
		for _, k := range allSteps(t.Kids[i]) {
			x := t
			x.Kids = slices.Clone(t.Kids)
			x.Kids[i] = k
			l = append(l, x)
		}
	}
	return l
}

func TestLawsOfNormalForms(t *testing.T) {
	r := rand.New(rand.NewSource(2))
	for range 2500 {
		x, _ := closedTerm(r)
		n, e := term.Norm(x, 2000)
		if e != api.OK || len(allSteps(n)) != 0 {
			t.Fatal("Norm has a redex", e, x, n)
		}
		if m, e := term.Norm(n, 0); e != api.OK || !term.Equal(m, n) {
			t.Fatal("Norm is not idempotent", e, n, m)
		}
		// any redex, again and again
		y := x
		for range 3000 {
			l := allSteps(y)
			if len(l) == 0 {
				break
			}
			y = l[r.Intn(len(l))]
		}
		if !term.Equal(y, n) {
			t.Fatal("another normal form", x, n, y)
		}
		h := term.Eta(x)
		if !term.Equal(term.Eta(h), h) || hasEta(h) || (hasEta(x) == term.Equal(x, h)) {
			t.Fatal("Eta", x, h)
		}
	}
}

// hasEta reports whether there is an abstraction that Eta replaces.
func hasEta(t api.Term) bool {
	if t.Op == api.Abs {
		b := t.Kids[0]
		if b.Op == api.App && b.Kids[1].Op == api.Bound && b.Kids[1].Num == 0 {
			// without its Bound: what is put for it plays no part
			p, q := term.Put(b.Kids[0], free("p", nat())), term.Put(b.Kids[0], free("q", nat()))
			if term.Equal(p, q) {
				return true
			}
		}
	}
	return slices.ContainsFunc(t.Kids, hasEta)
}

// leftmost makes the first step of allSteps, which is the leftmost outermost one.
func TestNormIsLeftmost(t *testing.T) {
	r := rand.New(rand.NewSource(3))
	several := 0
	for range 2500 {
		x, _ := closedTerm(r)
		y, n := x, 0
		for l := allSteps(y); len(l) > 0; l = allSteps(y) {
			y = l[0]
			n++
		}
		if n > 1 {
			several++
		}
		if m, e := term.Norm(x, n); e != api.OK || !term.Equal(m, y) {
			t.Fatal(e, x)
		}
		if _, e := term.Norm(x, n-1); n > 0 && e != api.ErrFuel {
			t.Fatal("fewer steps", x, n, e)
		}
	}
	if several < 200 {
		t.Error("too few cases", several)
	}
}

func TestLawsOfSubstitution(t *testing.T) {
	r, thy := rand.New(rand.NewSource(4)), signature()
	for range 2500 {
		u, v := randomType(r, 2), randomType(r, 2)
		x, a := free("new", v), randomTerm(r, v, nil, 3)
		body := randomTerm(r, u, []api.Type{v}, 4)
		if !term.Equal(term.Bind(x, term.Put(body, x)), body) {
			t.Fatal("Bind behind Put", body)
		}
		open := term.Put(body, x)
		if !term.Equal(term.Put(term.Bind(x, open), x), open) || !term.Closed(open) {
			t.Fatal("Put of Bind", open)
		}
		if w, e := term.Check(thy, term.Put(body, a)); e != api.OK || !types.Equal(w, u) {
			t.Fatal("the type of Put", e)
		}
		// under further abstractions: lifting and putting commute
		deep := randomTerm(r, u, []api.Type{v, nat(), v}, 4)
		if !term.Equal(term.Put(term.Lift(open, 1), a), open) || !term.Equal(term.Put(term.Put(deep, term.Lift(a, 2)), term.Lift(x, 1)), term.Put(term.Put(deep, a), x)) {
			t.Fatal("Lift", open, deep)
		}
		if !term.Equal(term.Lift(term.Lift(deep, 5), -5), deep) || term.Closed(term.Lift(deep, 0)) != term.Equal(term.Lift(deep, 1), deep) {
			t.Fatal("Lift and Closed", deep)
		}
		b, ok := term.Beta(app(abs(v, body), a))
		if !ok || !term.Equal(b, term.Put(body, a)) {
			t.Fatal("Beta", body, a)
		}
	}
}

func TestLawsOfInstances(t *testing.T) {
	r, thy := rand.New(rand.NewSource(5)), signature()
	for range 2500 {
		x, u := closedTerm(r)
		var i api.Inst
		for _, v := range term.TypeVariables(x) {
			if v.Op == api.TVar {
				i.Types = append(i.Types, api.TypeBind{Name: v.Name, Index: v.Index, To: []api.Type{nat(), tfree("c", "c"), tvar("b", 5, "d")}[r.Intn(3)]})
			}
		}
		for _, v := range term.Vars(x) {
			if r.Intn(3) > 0 {
				to := types.Apply(i.Types, v.Type)
				// the variables of other types have other names
				i.Terms = append(i.Terms, api.TermBind{Name: v.Name, Index: v.Num, To: freshTerm(r, to)})
			}
		}
		y := term.Apply(i, x)
		w, e := term.TypeOf(y)
		if e != api.OK || !types.Equal(w, types.Apply(i.Types, u)) {
			t.Fatal(e, x, y, w)
		}
		if w, e := term.Check(thy, y); e == api.OK && !types.Equal(w, types.Apply(i.Types, u)) {
			t.Fatal(e, y)
		}
		n := r.Intn(4)
		z := term.Raise(x, n)
		if w, e := term.Check(thy, z); e != api.OK || !types.Equal(w, types.Raise(u, n)) {
			t.Fatal("Raise", e, z)
		}
		if m := term.MaxIndex(x); m >= 0 && term.MaxIndex(z) != m+n {
			t.Fatal("MaxIndex", x, z)
		}
	}
}

// freshTerm returns a term of a type with abstractions.
func freshTerm(r *rand.Rand, u api.Type) api.Term {
	if u.Op == api.TCon && u.Name == "fun" && r.Intn(2) == 0 {
		return abs(u.Args[0], freshTerm(r, u.Args[1]))
	}
	return free("z"+typeName(u), u)
}

func TestLawsOfPropositions(t *testing.T) {
	r := rand.New(rand.NewSource(6))
	for range 500 {
		a, b, x := randomTerm(r, prop(), nil, 3), randomTerm(r, prop(), nil, 3), free("new", randomType(r, 2))
		if p, q, ok := term.IsImp(term.Imp(a, b)); !ok || !term.Equal(p, a) || !term.Equal(q, b) {
			t.Fatal("IsImp", a, b)
		}
		all := term.All(x, term.Imp(a, term.Put(term.Bind(x, b), x)))
		if p, ok := term.IsAll(all); !ok || !types.Equal(p.Type, x.Type) || !term.Equal(term.Put(p.Kids[0], x), term.Imp(a, b)) {
			t.Fatal("IsAll", a, b)
		}
		eq, e := term.Eq(a, b)
		if p, q, ok := term.IsEq(eq); e != api.OK || !ok || !term.Equal(p, a) || !term.Equal(q, b) {
			t.Fatal("IsEq", a, b)
		}
		if p, ok := term.IsProtect(term.Protect(a)); !ok || !term.Equal(p, a) {
			t.Fatal("IsProtect", a)
		}
		for _, y := range []api.Term{term.Imp(a, b), all, eq, term.Protect(a)} {
			if u, e := term.TypeOf(y); e != api.OK || !types.Equal(u, prop()) {
				t.Fatal("not a proposition", y, e)
			}
		}
		l, c := term.Strip(term.Imp(a, term.Imp(b, a)))
		if h, k := term.Spine(a); !term.Equal(term.Apps(h, k), a) || h.Op == api.App || len(l) < 2 || !term.Equal(rebuilt(l, c), term.Imp(a, term.Imp(b, a))) {
			t.Fatal("Spine and Strip", a, b)
		}
	}
}

// rebuilt is the inverse of Strip.
func rebuilt(l []api.Term, c api.Term) api.Term {
	for i := len(l) - 1; i >= 0; i-- {
		c = term.Imp(l[i], c)
	}
	return c
}

// exactly reports whether terms are equal, names of abstractions included.
func exactly(a, b api.Term) bool {
	return term.Equal(a, b) && a.Name == b.Name && slices.EqualFunc(a.Kids, b.Kids, exactly)
}

func TestLawsOfTexts(t *testing.T) {
	r := rand.New(rand.NewSource(7))
	for range 1000 {
		x, _ := closedTerm(r)
		s, e := term.Text(x)
		y, f := term.Read(s)
		u, _ := term.Text(y)
		if e != api.OK || f != api.OK || !exactly(x, y) || u != s {
			t.Fatal(s, u, e, f)
		}
		b := []byte(s)
		b[r.Intn(len(b))] = `a?'.(){}:, 01#$\`[r.Intn(16)]
		if y, e := term.Read(string(b)); e == api.OK {
			if u, _ := term.Text(y); u != string(b) {
				t.Fatalf("%q is read as %q", b, u)
			}
		}
	}
}

// oddTerm returns any term.
func oddTerm(r *rand.Rand, depth int) api.Term {
	t := api.Term{Op: r.Intn(8) - 1, Name: []string{"", "a", "imp", "all", "eq", "protect", "1"}[r.Intn(7)], Num: r.Intn(5) - 1}
	if r.Intn(2) == 0 {
		t.Type = []api.Type{nat(), prop(), tvar("a", 0), tvar("a", -1), con("x", tfree("b")), fun(nat(), nat())}[r.Intn(6)]
	}
	for depth > 1 && len(t.Kids) < r.Intn(4) {
		t.Kids = append(t.Kids, oddTerm(r, depth-1))
	}
	return t
}

// No function panics, whatever it is given, and the order is one of all terms.
func TestAnyTerms(t *testing.T) {
	r, thy := rand.New(rand.NewSource(8)), signature()
	var l []api.Term
	for range 3000 {
		a, b := oddTerm(r, 4), oddTerm(r, 3)
		if len(l) < 60 {
			l = append(l, a, b)
		}
		i := api.Inst{Types: []api.TypeBind{{Name: "a", To: tvar("a", 0)}}, Terms: []api.TermBind{{Name: "a", To: b}}}
		term.Apply(i, a)
		term.Size(a)
		term.Eta(a)
		term.Beta(a)
		term.Frees(a)
		term.Vars(a)
		term.TypeVariables(a)
		term.Raise(a, -1)
		term.IsAll(a)
		term.IsImp(a)
		term.IsEq(a)
		term.IsProtect(a)
		term.Strip(a)
		term.All(a, b)
		term.Norm(a, 10)
		if h, k := term.Spine(a); !term.Equal(term.Apps(h, k), a) {
			t.Fatal("Spine", a)
		}
		x := free("new", nat())
		if !term.Equal(term.Put(term.Bind(x, a), x), a) {
			t.Fatal("Bind", a)
		}
		_, e := term.TypeOf(a)
		_, f := term.Text(a)
		if _, g := term.Check(thy, a); g == api.OK && (e != api.OK || f != api.OK) || f == api.OK && e != api.OK && e != api.ErrType {
			t.Fatal(a, e, f, g)
		}
		if _, f := term.Eq(a, b); e != api.OK && f != e {
			t.Fatal("Eq", a, e, f)
		}
	}
	for _, a := range l {
		for _, b := range l {
			x := term.Compare(a, b)
			if x != -term.Compare(b, a) || (x == 0) != term.Equal(a, b) {
				t.Fatal(a, b, x)
			}
			for _, c := range l {
				if x <= 0 && term.Compare(b, c) <= 0 && term.Compare(a, c) > 0 {
					t.Fatal("not transitive", a, b, c)
				}
			}
		}
	}
}
