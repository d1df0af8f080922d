package equate_test

import (
	"testing"

	"triforium/api"
	"triforium/checker"
	"triforium/equate"
	"triforium/kernel"
	"triforium/term"
	"triforium/theory"
	"triforium/types"
)

func prop() api.Type { return types.Prop() }

func free(name string, t api.Type) api.Term { return api.Term{Op: api.Free, Name: name, Type: t} }

func lam(t api.Type, body api.Term) api.Term {
	return api.Term{Op: api.Abs, Name: "x", Type: t, Kids: []api.Term{body}}
}

func app(f api.Term, l ...api.Term) api.Term { return term.Apps(f, l) }

func b(n int) api.Term { return api.Term{Op: api.Bound, Num: n} }

func world(t *testing.T) kernel.World {
	w, e := kernel.Open(theory.Pure())
	if e != api.OK {
		t.Fatal(e)
	}
	return w
}

// want looks whether an equation is that of two terms, with a proof that is taken, or without one where they are the same.
func want(t *testing.T, m *equate.Maker, q equate.Equation, left, right api.Term) {
	t.Helper()
	if !term.Equal(q.Right, right) || q.Th.Is() == term.Equal(left, right) {
		t.Error("the right side", q.Th.Is())
	}
	th := m.Theorem(q)
	eq, _ := term.Eq(left, right)
	s, e := checker.Check(th.Theory(), th.Proof())
	if e != api.OK || !term.Equal(s.Prop, eq) || len(s.Hyps) > 0 {
		t.Error(e)
	}
}

func TestNormal(t *testing.T) {
	p, one := prop(), types.Fun(prop(), prop())
	a, f, g := free("A", p), free("f", one), free("g", types.Fun(p, one))
	x := free("x", p)
	m := equate.New(world(t), a, f, g, x)
	id := lam(p, b(0))
	etaTwo := lam(p, lam(p, app(g, b(1), b(0))))
	for _, v := range [][2]api.Term{
		{a, a}, {app(id, a), a}, {app(f, app(id, a)), app(f, a)}, {lam(p, app(id, b(0))), id}, {app(lam(one, app(b(0), app(b(0), a))), id), a}, {app(lam(p, lam(p, app(g, b(1), b(0)))), x, a), app(g, x, a)},
		{lam(p, app(lam(p, lam(p, app(g, b(2), b(1)))), b(0), a)), lam(p, app(g, b(0), b(0)))},
	} {
		want(t, m, m.Normal(v[0]), v[0], v[1])
	}
	want(t, m, m.Short(etaTwo), etaTwo, g)
	want(t, m, m.Short(lam(p, app(f, app(f, b(0))))), lam(p, app(f, app(f, b(0)))), lam(p, app(f, app(f, b(0)))))
	want(t, m, m.Equal(app(lam(one, b(0)), lam(p, app(f, b(0)))), app(id2(one), f)), app(lam(one, b(0)), lam(p, app(f, b(0)))), app(id2(one), f))
	if y := m.Free("x", p); y.Name == "x" {
		t.Error("not new")
	}
}

// id2 is an identity that is applied to another one.
func id2(t api.Type) api.Term { return app(lam(types.Fun(t, t), b(0)), lam(t, b(0))) }

func TestEquations(t *testing.T) {
	w := world(t)
	a, c := free("A", prop()), free("C", prop())
	m := equate.New(w, a, c)
	eq, _ := term.Eq(a, c)
	th, _ := w.Assume(eq)
	q := equate.Equation{Right: c, Th: th}
	if r := q.Then(equate.Same(c)); r.Th != th {
		t.Error("Then")
	}
	if r := equate.Same(a).Then(q).Then(q.Turned(a)); !r.Th.Is() || !term.Equal(r.Right, a) {
		t.Error("Turned")
	}
	h, _ := w.Assume(a)
	if r := q.Of(h); !term.Equal(r.Prop(), c) || equate.Same(a).Of(h) != h {
		t.Error("Of")
	}
	defer func() {
		if recover() == nil {
			t.Error("an abstraction over a hypothesis")
		}
	}()
	m.Over(a, lam(prop(), b(0)), q)
}
