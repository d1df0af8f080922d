package derive_test

import (
	"testing"

	"triforium/api"
	"triforium/checker"
	"triforium/derive"
	"triforium/kernel"
	"triforium/term"
	"triforium/theory"
	"triforium/types"
)

func free(name string) api.Term { return api.Term{Op: api.Free, Name: name, Type: types.Prop()} }

func TestIntro(t *testing.T) {
	a, b := free("A"), free("B")
	w, e := kernel.Open(theory.Pure())
	if e != api.OK {
		t.Fatal(e)
	}
	// the hypothesis A is lost as a premise, and had again
	th := derive.Intro([]api.Term{b, a}, derive.Assume(w, a))
	if len(th.Hyps()) != 0 || !term.Equal(th.Prop(), term.Imp(b, term.Imp(a, a))) {
		t.Error(th.Prop())
	}
	th = derive.WithHyps(th, []api.Term{a, b, a})
	if len(th.Hyps()) != 2 || !term.Equal(th.Prop(), term.Imp(b, term.Imp(a, a))) {
		t.Error(th.Hyps())
	}
	if _, e := checker.Check(th.Theory(), th.Proof()); e != api.OK {
		t.Error(e)
	}
	if x := derive.Elim(derive.Elim(th, derive.Assume(w, b)), derive.Assume(w, a)); !term.Equal(x.Prop(), a) {
		t.Error(x.Prop())
	}
}

func TestNamed(t *testing.T) {
	x, y := api.Term{Op: api.Free, Name: "x", Type: types.Prop()}, api.Term{Op: api.Free, Name: "y", Type: types.Prop()}
	th := derive.Must(kernel.Assume(theory.Pure(), term.All(x, x)))
	if r := derive.Named(th, term.All(y, y)); r.Prop().Kids[1].Name != "y" || len(r.Hyps()) != 1 {
		t.Error(r.Prop())
	}
	if r := derive.Named(th, term.All(x, x)); r != th {
		t.Error("another theorem")
	}
}

func TestMust(t *testing.T) {
	defer func() {
		if e := derive.Failure(recover()); e != api.ErrForm {
			t.Error(e)
		}
		if e := derive.Failure("other"); e != api.ErrFail {
			t.Error(e)
		}
	}()
	derive.Must(kernel.Assume(api.Theory{}, free("A")))
	t.Error("not left")
}

func schematic(name string, index int) api.Term {
	return api.Term{Op: api.Var, Name: name, Num: index, Type: types.Prop()}
}

// Instances raise all variables, also where there are more than the kernel takes at once.
func TestInstance(t *testing.T) {
	x, a := schematic("x", 0), free("A")
	th := derive.Must(kernel.Assume(theory.Pure(), term.Imp(x, schematic("y", 2))))
	r := derive.Instance(th, 3, api.Inst{Terms: []api.TermBind{{Name: "x", Index: 3, To: term.Imp(a, x)}}})
	if want := term.Imp(term.Imp(a, x), schematic("y", 5)); !term.Equal(r.Prop(), want) || !term.Equal(r.Hyps()[0], want) {
		t.Error(r.Prop())
	}
	if derive.Instance(th, 0, api.Inst{}) != th {
		t.Error("another theorem")
	}
	for _, n := range []int{90, 150} {
		prop, want := schematic("x", n), schematic("x", n+2)
		i := api.Inst{}
		for k := n - 1; k >= 0; k-- {
			prop = term.Imp(schematic("x", k), prop)
			to := schematic("x", k+2)
			if k%2 == 0 {
				to = schematic("x", k%2)
				i.Terms = append(i.Terms, api.TermBind{Name: "x", Index: k + 2, To: to})
			}
			want = term.Imp(to, want)
		}
		r := derive.Instance(derive.Must(kernel.Assume(theory.Pure(), prop)), 2, i)
		if !term.Equal(r.Prop(), want) {
			t.Error(n)
		}
		if _, e := checker.Check(r.Theory(), r.Proof()); e != api.OK {
			t.Error(n, e)
		}
	}
}

func TestGuards(t *testing.T) {
	if x, e := derive.Guarded(func() (int, api.Errno) { return derive.Want(7, api.ErrForm), api.OK }); x != 0 || e != api.ErrForm {
		t.Error(x, e)
	}
	if x, e := derive.Guarded(func() (int, api.Errno) { return 7, api.ErrType }); x != 0 || e != api.ErrType {
		t.Error(x, e)
	}
	if x, e := derive.Guarded(func() (int, api.Errno) { return derive.Want(7, api.OK), api.OK }); x != 7 || e != api.OK {
		t.Error(x, e)
	}
	if x, e := derive.Guarded(func() (int, api.Errno) { return derive.Limited(func() int { panic("limit") }), api.OK }); x != 0 || e != api.ErrLarge {
		t.Error(x, e)
	}
	big := free("A")
	for range 14 {
		big = term.Imp(big, big)
	}
	if _, e := derive.Guarded(func() (api.Term, api.Errno) {
		return derive.Applied(api.Inst{Terms: []api.TermBind{{Name: "x", To: big}}}, term.Imp(schematic("x", 0), schematic("x", 0))), api.OK
	}); e != api.ErrCount {
		t.Error(e)
	}
	if x := derive.Applied(api.Inst{Terms: []api.TermBind{{Name: "x", To: free("B")}}}, schematic("x", 0)); !term.Equal(x, free("B")) {
		t.Error(x)
	}
}
