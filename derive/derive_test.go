package derive_test

import (
	"testing"

	"triforium/api"
	"triforium/checker"
	"triforium/derive"
	"triforium/kernel"
	"triforium/term"
	"triforium/theory"
	"triforium/types"
)

func free(name string) api.Term { return api.Term{Op: api.Free, Name: name, Type: types.Prop()} }

func TestIntro(t *testing.T) {
	a, b := free("A"), free("B")
	w, e := kernel.Open(theory.Pure())
	if e != api.OK {
		t.Fatal(e)
	}
	// the hypothesis A is lost as a premise, and had again
	th := derive.Intro([]api.Term{b, a}, derive.Assume(w, a))
	if len(th.Hyps()) != 0 || !term.Equal(th.Prop(), term.Imp(b, term.Imp(a, a))) {
		t.Error(th.Prop())
	}
	th = derive.WithHyps(th, []api.Term{a, b, a})
	if len(th.Hyps()) != 2 || !term.Equal(th.Prop(), term.Imp(b, term.Imp(a, a))) {
		t.Error(th.Hyps())
	}
	if _, e := checker.Check(th.Theory(), th.Proof()); e != api.OK {
		t.Error(e)
	}
	if x := derive.Elim(derive.Elim(th, derive.Assume(w, b)), derive.Assume(w, a)); !term.Equal(x.Prop(), a) {
		t.Error(x.Prop())
	}
}

func TestNamed(t *testing.T) {
	x, y := api.Term{Op: api.Free, Name: "x", Type: types.Prop()}, api.Term{Op: api.Free, Name: "y", Type: types.Prop()}
	th := derive.Must(kernel.Assume(theory.Pure(), term.All(x, x)))
	if r := derive.Named(th, term.All(y, y)); r.Prop().Kids[1].Name != "y" || len(r.Hyps()) != 1 {
		t.Error(r.Prop())
	}
	if r := derive.Named(th, term.All(x, x)); r != th {
		t.Error("another theorem")
	}
}

func TestMust(t *testing.T) {
	defer func() {
		if e := derive.Failure(recover()); e != api.ErrForm {
			t.Error(e)
		}
		if e := derive.Failure("other"); e != api.ErrFail {
			t.Error(e)
		}
	}()
	derive.Must(kernel.Assume(api.Theory{}, free("A")))
	t.Error("not left")
}
