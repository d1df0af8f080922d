package binds_test

import (
	"testing"

	"triforium/api"
	"triforium/binds"
	"triforium/term"
	"triforium/theory"
	"triforium/types"
)

func prop() api.Type { return types.Prop() }

func free(name string, t api.Type) api.Term { return api.Term{Op: api.Free, Name: name, Type: t} }

func schematic(name string, t api.Type) api.Term {
	return api.Term{Op: api.Var, Name: name, Type: t}
}

// left returns the code with which a function is left.
func left(f func()) (e api.Errno) {
	defer func() {
		if x := recover(); x != nil {
			e = binds.Failure(x)
		}
	}()
	f()
	return api.OK
}

// A normal form that is far too large, or that is to be reached by far too many steps, is given up.
func TestNormalGivesUp(t *testing.T) {
	p := prop()
	f := free("f", types.Fun(p, types.Fun(p, p)))
	double := api.Term{Op: api.Abs, Name: "x", Type: p, Kids: []api.Term{term.Apps(f, []api.Term{{Op: api.Bound}, {Op: api.Bound}})}}
	constant := api.Term{Op: api.Abs, Name: "x", Type: p, Kids: []api.Term{free("A", p)}}
	x := free("A", p)
	for range 40 {
		x = term.Apps(double, []api.Term{x})
	}
	s, _, e := binds.Open(theory.Pure(), []api.Term{x})
	if e != api.OK {
		t.Fatal(e)
	}
	if e := left(func() { s.Normal(x, 1<<20) }); e != api.ErrLarge {
		t.Error(e)
	}
	// what is thrown away is not made
	if r := s.Normal(term.Apps(constant, []api.Term{x}), 1); !term.Equal(r, free("A", p)) {
		t.Error(r)
	}
	if e := left(func() { s.Normal(term.Apps(double, []api.Term{free("A", p)}), 4) }); e != api.ErrLarge {
		t.Error(e)
	}
}

// A copy goes on by itself, and new variables are above those that were given.
func TestCopy(t *testing.T) {
	p, v := prop(), schematic("A", prop())
	v.Num = 6
	s, typed, e := binds.Open(theory.Pure(), []api.Term{v, free("B", p)})
	if e != api.OK || len(typed) != 2 || !types.Equal(typed[0], p) {
		t.Fatal(e)
	}
	c := s.Copy()
	c.Bind(v, free("B", p))
	if h := c.Fresh(p); h.Name != "H" || h.Num != 7 || c.Fresh(p).Num != 8 || s.Fresh(p).Num != 7 {
		t.Error(h)
	}
	if len(s.Inst([]api.Term{v}).Terms) != 0 || len(c.Inst([]api.Term{v, v}).Terms) != 1 || len(c.Inst(nil).Terms) != 0 {
		t.Error("binds")
	}
}

// A panic that is no code of a state is a failure, too.
func TestFailure(t *testing.T) {
	if binds.Failure("other") != api.ErrFail || binds.Failure(api.ErrLarge) != api.ErrLarge {
		t.Error("Failure")
	}
}
