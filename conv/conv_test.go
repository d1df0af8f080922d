package conv_test

import (
	"testing"

	"triforium/api"
	"triforium/checker"
	"triforium/conv"
	"triforium/kernel"
	"triforium/term"
	"triforium/theory"
	"triforium/types"
)

func must[T any](x T, e api.Errno) T {
	if e != api.OK {
		panic(e)
	}
	return x
}

func n() api.Type { return api.Type{Op: api.TCon, Name: "n"} }

// thy has the type n, the constants a, b : n, f : n => n, g : n => n => n, h : (n => n) => n, and an oracle.
func thy() api.Theory {
	one := types.Fun(n(), n())
	return must(theory.Extend(theory.Pure(), "T", api.Theory{
		Types:   []api.TypeDecl{{Name: "n"}},
		Consts:  []api.ConstDecl{{Name: "a", Type: n()}, {Name: "b", Type: n()}, {Name: "f", Type: one}, {Name: "g", Type: types.Fun(n(), one)}, {Name: "h", Type: types.Fun(one, n())}},
		Oracles: []string{"trust"},
	}))
}

func c(name string, l ...api.Term) api.Term {
	typ, _ := theory.Const(thy(), name)
	return term.Apps(api.Term{Op: api.Const, Name: name, Type: typ}, l)
}

func x() api.Term { return api.Term{Op: api.Var, Name: "x", Type: n()} }
func y() api.Term { return api.Term{Op: api.Var, Name: "y", Type: n()} }
func free(name string) api.Term {
	return api.Term{Op: api.Free, Name: name, Type: n()}
}
func lam(body api.Term) api.Term {
	return api.Term{Op: api.Abs, Name: "z", Type: n(), Kids: []api.Term{body}}
}
func bound(i int) api.Term { return api.Term{Op: api.Bound, Num: i} }
func eq(a, b api.Term) api.Term {
	return must(term.Eq(a, b))
}

// stated returns a theorem by the oracle.
func stated(t api.Term) kernel.Theorem { return must(kernel.Oracle(thy(), "trust", t)) }

// assumed returns a theorem from itself.
func assumed(t api.Term) kernel.Theorem { return must(kernel.Assume(thy(), t)) }

func e(kind int, l ...conv.Expr) conv.Expr { return conv.Expr{Kind: kind, Kids: l} }
func rule(n int) conv.Expr                 { return conv.Expr{Kind: conv.Rule, Num: n} }

// rules: f x == x; a == f a; g x y == g y x; b == b; h (%z. f z) == a.
func rules() []kernel.Theorem {
	return []kernel.Theorem{
		stated(eq(c("f", x()), x())), stated(eq(c("a"), c("f", c("a")))), stated(eq(c("g", x(), y()), c("g", y(), x()))), stated(eq(c("b"), c("b"))), stated(eq(c("h", c("f")), c("a"))),
	}
}

func TestKinds(t *testing.T) {
	a, b := c("a"), c("b")
	redex := api.Term{Op: api.App, Kids: []api.Term{lam(c("f", bound(0))), a}}
	inner := c("g", redex, c("f", a))
	for i, v := range []struct {
		e    conv.Expr
		t    api.Term
		want api.Term
		code api.Errno
	}{
		{e(conv.All), a, a, 0}, {e(conv.No), a, api.Term{}, api.ErrFail},
		{e(conv.Beta), redex, c("f", a), 0}, {e(conv.Beta), a, api.Term{}, api.ErrFail}, {e(conv.Beta), inner, api.Term{}, api.ErrFail},
		{e(conv.Eta), lam(c("f", bound(0))), c("f"), 0}, {e(conv.Eta), lam(c("g", bound(0), bound(0))), api.Term{}, api.ErrFail}, {e(conv.Eta), a, api.Term{}, api.ErrFail},
		{rule(0), c("f", b), b, 0}, {rule(0), b, api.Term{}, api.ErrFail}, {rule(2), c("g", a, b), c("g", b, a), 0}, {rule(3), b, b, 0},
		{rule(0), c("f", redex), c("f", a), 0}, {rule(4), c("h", lam(c("f", bound(0)))), a, 0}, {rule(4), c("h", c("f")), a, 0}, {rule(0), redex, a, 0},
		{e(conv.Then, rule(0), rule(0)), c("f", c("f", a)), a, 0}, {e(conv.Then, rule(0), rule(0)), c("f", a), api.Term{}, api.ErrFail}, {e(conv.Then, e(conv.All), rule(0)), c("f", a), a, 0},
		{e(conv.Else, rule(0), rule(1)), a, c("f", a), 0}, {e(conv.Else, rule(0), rule(1)), b, api.Term{}, api.ErrFail}, {e(conv.Else, rule(0), e(conv.No)), c("f", b), b, 0},
		{e(conv.Repeat, rule(0)), c("f", c("f", c("f", a))), a, 0}, {e(conv.Repeat, rule(0)), a, a, 0}, {e(conv.Repeat, rule(3)), b, b, 0}, {e(conv.Repeat, e(conv.No)), b, b, 0},
		{e(conv.Arg, rule(0)), c("g", a, c("f", b)), c("g", a, b), 0}, {e(conv.Arg, rule(0)), c("g", c("f", a), b), api.Term{}, api.ErrFail}, {e(conv.Arg, rule(0)), a, api.Term{}, api.ErrFail},
		{e(conv.Fun, e(conv.Arg, rule(0))), c("g", c("f", b), a), c("g", b, a), 0}, {e(conv.Fun, rule(0)), a, api.Term{}, api.ErrFail},
		{e(conv.Body, rule(0)), lam(c("f", bound(0))), lam(bound(0)), 0}, {e(conv.Body, rule(0)), c("f", a), api.Term{}, api.ErrFail}, {e(conv.Body, e(conv.Eta)), lam(lam(c("g", bound(1), bound(0)))), lam(c("g", bound(0))), 0},
		{e(conv.Sub, e(conv.Else, rule(0), e(conv.Arg, rule(0)))), c("g", c("f", a), c("f", b)), c("g", a, b), 0}, {e(conv.Sub, rule(0)), c("g", a, b), api.Term{}, api.ErrFail}, {e(conv.Sub, rule(0)), a, api.Term{}, api.ErrFail},
		{e(conv.Sub, rule(0)), lam(c("f", a)), lam(a), 0},
		{e(conv.Top, rule(0)), c("g", c("f", c("f", a)), c("f", b)), c("g", a, b), 0}, {e(conv.Top, rule(0)), a, a, 0}, {e(conv.Top, e(conv.Else, rule(4), rule(0))), c("h", lam(c("f", c("f", bound(0))))), c("h", lam(bound(0))), 0},
		{e(conv.Bottom, rule(0)), c("g", c("f", a), c("f", c("f", b))), c("g", a, b), 0}, {e(conv.Bottom, rule(0)), b, b, 0}, {e(conv.Bottom, rule(3)), c("f", b), c("f", b), 0},
		{e(conv.Once, rule(0)), c("g", c("f", a), c("f", b)), c("g", a, c("f", b)), 0}, {e(conv.Once, rule(0)), c("f", c("f", a)), c("f", a), 0}, {e(conv.Once, rule(0)), c("g", a, c("h", lam(c("f", bound(0))))), c("g", a, c("h", lam(bound(0)))), 0}, {e(conv.Once, rule(0)), c("g", a, b), api.Term{}, api.ErrFail},
		{e(conv.Norm), inner, c("g", c("f", a), c("f", a)), 0}, {e(conv.Norm), a, a, 0},
	} {
		th, code := conv.Run(thy(), rules(), v.e, v.t, 50)
		if code != v.code || th.Is() != (code == api.OK) {
			t.Error(i, code)
			continue
		}
		if code != api.OK {
			continue
		}
		if !term.Equal(th.Prop(), eq(v.t, v.want)) || len(th.Hyps()) > 0 {
			t.Error(i, must(term.Text(th.Prop())))
		}
		s, code := checker.Check(th.Theory(), th.Proof())
		if code != api.OK || !checker.Same(s, checker.Sequent{Prop: th.Prop(), Oracles: th.Oracles()}) {
			t.Error(i, "the checker", code)
		}
	}
}

// The example of the chapter: three steps; and what ends when the steps do.
func TestFuel(t *testing.T) {
	big := c("g", c("f", c("a")), c("f", c("f", c("b"))))
	for i, v := range []struct {
		e    conv.Expr
		t    api.Term
		fuel int
		code api.Errno
	}{
		{e(conv.Bottom, rule(0)), big, 3, api.OK}, {e(conv.Bottom, rule(0)), big, 2, api.ErrFuel}, {e(conv.Top, rule(0)), big, 3, api.OK}, {e(conv.Top, rule(0)), big, 2, api.ErrFuel},
		{e(conv.Repeat, rule(2)), c("g", c("a"), c("b")), 2000, api.ErrFuel}, {e(conv.Repeat, rule(2)), c("g", c("a"), c("a")), 1, api.OK}, {e(conv.Repeat, rule(3)), c("b"), 1, api.OK}, {e(conv.Repeat, rule(3)), c("b"), 0, api.ErrFuel},
		{e(conv.Else, rule(0), e(conv.All)), c("f", c("a")), 0, api.ErrFuel}, {rule(0), c("a"), 0, api.ErrFail}, {e(conv.All), c("a"), 0, api.OK}, {e(conv.Norm), c("a"), 0, api.ErrFuel}, {e(conv.Norm), c("a"), 1, api.OK},
		{e(conv.Eta), lam(c("f", bound(0))), 0, api.ErrFuel}, {e(conv.Beta), c("f", c("a")), 0, api.ErrFail},
		{e(conv.Then, rule(0), e(conv.No)), c("f", c("a")), 1, api.ErrFail}, {e(conv.Else, e(conv.Then, rule(0), e(conv.No)), rule(0)), c("f", c("a")), 1, api.ErrFuel},
	} {
		if _, code := conv.Run(thy(), rules(), v.e, v.t, v.fuel); code != v.code {
			t.Error(i, code, v.code)
		}
	}
	cv := must(conv.Make(thy(), rules(), e(conv.Bottom, rule(0)), 3))
	for range 3 { // each call has all of it
		if _, code := cv(big); code != api.OK {
			t.Error(code)
		}
	}
}

// Hypotheses of the rules that are used, instantiated, stand there; an abstraction over them is not permitted.
func TestHypotheses(t *testing.T) {
	p := eq(c("f", x()), c("a"))
	l := []kernel.Theorem{assumed(p), assumed(eq(c("f", c("b")), c("a"))), assumed(eq(c("b"), free("u")))}
	th := must(conv.Run(thy(), l, rule(0), c("f", c("b")), 5))
	if h := th.Hyps(); len(h) != 1 || !term.Equal(h[0], eq(c("f", c("b")), c("a"))) {
		t.Error(h)
	}
	under := lam(c("f", bound(0)))
	if _, code := conv.Run(thy(), l, e(conv.Body, rule(0)), under, 5); code != api.ErrFail {
		t.Error(code)
	}
	if th := must(conv.Run(thy(), l, e(conv.Else, e(conv.Body, rule(0)), e(conv.All)), under, 5)); len(th.Hyps()) > 0 {
		t.Error("the other one")
	}
	th = must(conv.Run(thy(), l, e(conv.Bottom, rule(0)), c("g", c("h", under), c("f", c("b"))), 9))
	if !term.Equal(th.Prop(), eq(c("g", c("h", under), c("f", c("b"))), c("g", c("h", under), c("a")))) || len(th.Hyps()) != 1 {
		t.Error(must(term.Text(th.Prop())))
	}
	if th := must(conv.Run(thy(), l, e(conv.Body, rule(1)), lam(c("f", c("b"))), 5)); len(th.Hyps()) != 1 {
		t.Error("a hypothesis without the variable")
	}
	// a variable of another type in a hypothesis
	other := api.Term{Op: api.Free, Name: "u", Type: types.Prop()}
	if _, code := conv.Run(thy(), l, e(conv.Arg, e(conv.Arg, rule(2))), eq(free("v"), c("f", c("b"))), 5); code != api.OK {
		t.Error(code)
	}
	if _, code := conv.Run(thy(), l, e(conv.Arg, e(conv.Arg, e(conv.Arg, rule(2)))), term.Imp(other, eq(free("v"), c("f", c("b")))), 5); code != api.ErrFail {
		t.Error(code)
	}
}

func TestErrors(t *testing.T) {
	many := make([]conv.Expr, 0)
	deep := e(conv.All)
	for range 20 {
		deep = e(conv.Repeat, deep)
	}
	wide := e(conv.All)
	for range 50 {
		many = append(many, e(conv.All))
		wide = e(conv.Then, wide, e(conv.All))
	}
	for i, v := range []struct {
		e    conv.Expr
		code api.Errno
	}{
		{e(conv.All), 0}, {e(0), api.ErrForm}, {e(17), api.ErrForm}, {e(-1), api.ErrForm}, {e(conv.All, e(conv.All)), api.ErrForm}, {e(conv.Then, e(conv.All)), api.ErrForm}, {e(conv.Repeat), api.ErrForm},
		{conv.Expr{Kind: conv.All, Num: 1}, api.ErrForm}, {rule(5), api.ErrRange}, {rule(-1), api.ErrRange}, {rule(4), 0}, {deep, api.ErrDepth}, {deep.Kids[0], 0}, {wide, api.ErrCount}, {e(conv.All, append(many, many...)...), api.ErrCount},
		{e(conv.Then, rule(9), e(0)), api.ErrRange}, {e(0, rule(9)), api.ErrForm},
	} {
		if code := conv.Form(v.e, 5); code != v.code {
			t.Error(i, code, v.code)
		}
	}
	fifty := make([]kernel.Theorem, 51)
	imp := assumed(term.Imp(eq(c("a"), c("b")), eq(c("a"), c("b"))))
	pure := must(kernel.Reflexive(theory.Pure(), api.Term{Op: api.Free, Name: "A", Type: types.Prop()}))
	for i, v := range []struct {
		thy   api.Theory
		rules []kernel.Theorem
		e     conv.Expr
		t     api.Term
		fuel  int
		code  api.Errno
	}{
		{api.Theory{}, fifty, e(0), api.Term{}, -1, api.ErrForm}, {thy(), fifty, e(0), api.Term{}, -1, api.ErrCount}, {thy(), fifty[:50], e(0), api.Term{}, -1, kernel.ErrNone}, {theory.Pure(), rules(), e(0), api.Term{}, -1, api.ErrTheory},
		{thy(), []kernel.Theorem{imp, {}}, e(0), api.Term{}, -1, api.ErrArgument}, {thy(), []kernel.Theorem{pure}, e(0), api.Term{}, -1, api.ErrForm}, {thy(), nil, e(conv.All), api.Term{}, -1, api.ErrRange}, {thy(), nil, e(conv.All), api.Term{}, conv.MaxFuel + 1, api.ErrRange},
		{thy(), nil, e(conv.All), api.Term{}, 0, api.ErrForm}, {thy(), nil, e(conv.All), bound(0), 0, term.ErrLoose}, {thy(), nil, e(conv.All), c("a"), conv.MaxFuel, api.OK},
	} {
		th, code := conv.Run(v.thy, v.rules, v.e, v.t, v.fuel)
		if code != v.code || th.Is() != (code == 0) {
			t.Error(i, code, v.code)
		}
		if cv, code := conv.Make(v.thy, v.rules, v.e, v.fuel); (cv == nil) != (code != api.OK) || i < 8 && code != v.code {
			t.Error(i, code)
		}
	}
}

func TestConvert(t *testing.T) {
	cv := must(conv.Make(thy(), rules(), e(conv.Bottom, rule(0)), 9))
	th, code := conv.Convert(cv, assumed(eq(c("f", c("a")), c("b"))))
	if code != api.OK || !term.Equal(th.Prop(), eq(c("a"), c("b"))) || len(th.Hyps()) != 1 {
		t.Error(code)
	}
	if _, code := conv.Convert(nil, kernel.Theorem{}); code != kernel.ErrNone {
		t.Error(code)
	}
	if _, code := conv.Convert(nil, th); code != api.ErrArgument {
		t.Error(code)
	}
	no := must(conv.Make(thy(), nil, e(conv.No), 9))
	if th, code := conv.Convert(no, th); code != api.ErrFail || th.Is() {
		t.Error(code)
	}
	wrong := func(api.Term) (kernel.Theorem, api.Errno) { return th, api.OK }
	if r, code := conv.Convert(wrong, th); code == api.OK || r.Is() {
		t.Error("no equation of it")
	}
	bad := func(api.Term) (kernel.Theorem, api.Errno) { panic("bad") }
	if r, code := conv.Convert(bad, th); code == api.OK || r.Is() {
		t.Error("it panics")
	}
}
