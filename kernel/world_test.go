package kernel_test

import (
	"testing"

	"triforium/api"
	"triforium/kernel"
	"triforium/proof"
	"triforium/term"
	"triforium/theory"
)

// A world makes what the functions make in its theory.
func TestWorlds(t *testing.T) {
	w := must(kernel.Open(numbers()))
	if x := w.Theory(); x.Name != "Numbers" || !theory.Within(x, numbers()) || !theory.Within(numbers(), x) {
		t.Error(x.Name)
	}
	a, redex, short := read("$A:P"), read(`((\x:N . #0) zero:N)`), read(`(\x:N . (suc:fun(nat, nat) #0))`)
	for i, x := range []struct {
		in  func(kernel.World) (kernel.Theorem, api.Errno)
		out func(api.Theory) (kernel.Theorem, api.Errno)
	}{
		{func(w kernel.World) (kernel.Theorem, api.Errno) { return w.Axiom("ax") }, func(t api.Theory) (kernel.Theorem, api.Errno) { return kernel.Axiom(t, "ax") }},
		{func(w kernel.World) (kernel.Theorem, api.Errno) { return w.Axiom("none") }, func(t api.Theory) (kernel.Theorem, api.Errno) { return kernel.Axiom(t, "none") }},
		{func(w kernel.World) (kernel.Theorem, api.Errno) { return w.Assume(a) }, func(t api.Theory) (kernel.Theorem, api.Errno) { return kernel.Assume(t, a) }},
		{func(w kernel.World) (kernel.Theorem, api.Errno) { return w.Assume(redex) }, func(t api.Theory) (kernel.Theorem, api.Errno) { return kernel.Assume(t, redex) }},
		{func(w kernel.World) (kernel.Theorem, api.Errno) { return w.Reflexive(redex) }, func(t api.Theory) (kernel.Theorem, api.Errno) { return kernel.Reflexive(t, redex) }},
		{func(w kernel.World) (kernel.Theorem, api.Errno) { return w.Beta(redex) }, func(t api.Theory) (kernel.Theorem, api.Errno) { return kernel.Beta(t, redex) }},
		{func(w kernel.World) (kernel.Theorem, api.Errno) { return w.Beta(a) }, func(t api.Theory) (kernel.Theorem, api.Errno) { return kernel.Beta(t, a) }},
		{func(w kernel.World) (kernel.Theorem, api.Errno) { return w.Eta(short) }, func(t api.Theory) (kernel.Theorem, api.Errno) { return kernel.Eta(t, short) }},
		{func(w kernel.World) (kernel.Theorem, api.Errno) { return w.Reflexive(api.Term{}) }, func(t api.Theory) (kernel.Theorem, api.Errno) { return kernel.Reflexive(t, api.Term{}) }},
	} {
		got, e := x.in(w)
		want, f := x.out(numbers())
		if e != f || !term.Equal(got.Prop(), want.Prop()) || len(got.Hyps()) != len(want.Hyps()) || !proof.Equal(got.Proof(), want.Proof()) {
			t.Error(i, e, f)
		}
		if _, e := x.in(kernel.World{}); e != kernel.ErrNone {
			t.Error(i, e)
		}
	}
	th := must(w.Assume(a))
	if x := must(must(kernel.Open(more())).Transfer(th)); x.Theory().Name != "More" || th.World().Theory().Name != "Numbers" {
		t.Error(x.Theory().Name)
	}
	if _, e := must(kernel.Open(apart())).Transfer(th); e != api.ErrTheory {
		t.Error(e)
	}
	if _, e := w.Transfer(kernel.Theorem{}); e != kernel.ErrNone {
		t.Error(e)
	}
	if _, e := kernel.Open(api.Theory{}); e != api.ErrForm {
		t.Error(e)
	}
	if x := (kernel.World{}).Theory(); x.Name != "" || (kernel.Theorem{}).World() != (kernel.World{}) {
		t.Error(x.Name)
	}
	// what is returned can be changed
	spoilt := w.Theory()
	spoilt.Consts[0].Name = "spoilt"
	if w.Theory().Consts[0].Name != "imp" {
		t.Error("the world has changed")
	}
}

// Common has the theory, or the error, of what is made of two theorems.
func TestCommon(t *testing.T) {
	one := func(thy api.Theory, s string) kernel.Theorem { return must(kernel.Assume(thy, read(s))) }
	for i, x := range []struct {
		a, b kernel.Theorem
		name string
		e    api.Errno
	}{
		{one(numbers(), "$A:P"), one(more(), "$B:P"), "More", api.OK}, {one(more(), "$A:P"), one(numbers(), "$B:P"), "More", api.OK}, {one(apart(), "$A:P"), one(numbers(), "$B:P"), "", api.ErrTheory},
		{kernel.Theorem{}, one(numbers(), "$B:P"), "", kernel.ErrNone}, {one(numbers(), "$B:P"), kernel.Theorem{}, "", kernel.ErrNone}, {one(numbers(), "$A:P"), one(numbers(), "(("+imp+" ($q:fun(nat, prop) $A:N)) $B:P)"), "", api.ErrType},
		{one(numbers(), "($q:fun('a, prop) $y:'a)"), one(numbers(), "($r:fun('a{c}, prop) $z:'a{c})"), "", api.ErrSort},
	} {
		w, e := kernel.Common(x.a, x.b)
		if _, f := kernel.ImpElim(x.a, x.b); e != x.e || w.Theory().Name != x.name || e != api.OK && f != e {
			t.Error(i, e, f, w.Theory().Name)
		}
	}
}
