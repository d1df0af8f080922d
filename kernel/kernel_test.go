package kernel_test

import (
	"fmt"
	"slices"
	"strings"
	"testing"

	"triforium/api"
	"triforium/kernel"
	"triforium/proof"
	"triforium/term"
	"triforium/theory"
	"triforium/types"
)

func must[T any](x T, e api.Errno) T {
	if e != api.OK {
		panic(fmt.Sprint("error ", int(e)))
	}
	return x
}

// read returns the term with a text, in which P: stands for prop and N: for nat.
func read(s string) api.Term {
	s = strings.NewReplacer(":P", ":prop", ":N", ":nat").Replace(s)
	t, e := term.Read(s)
	if e != api.OK {
		panic(fmt.Sprint(s, " ", int(e)))
	}
	return t
}

func text(t api.Term) string { return must(term.Text(t)) }

func typ(s string) api.Type { return must(types.Read(s)) }

// numbers is a theory with classes, types, constants, axioms and an oracle.
func numbers() api.Theory {
	return must(theory.Extend(theory.Pure(), "Numbers", api.Theory{
		Classes: []api.Class{{Name: "c"}, {Name: "d", Supers: []string{"c"}}},
		Types:   []api.TypeDecl{{Name: "nat"}, {Name: "list", Arity: 1}},
		Arities: []api.Arity{{Type: "nat", Class: "c"}, {Type: "list", Class: "c", Sorts: [][]string{{"c"}}}},
		Consts:  []api.ConstDecl{{Name: "zero", Type: typ("nat")}, {Name: "suc", Type: typ("fun(nat, nat)")}, {Name: "k", Type: typ("?a.0{c}")}},
		Axioms:  []api.Axiom{{Name: "ax", Prop: read("?A.0:P")}},
		Oracles: []string{"trust", "guess"},
	}))
}

// more is a theory that has all of numbers, apart one that has not.
func more() api.Theory {
	return must(theory.Extend(numbers(), "More", api.Theory{Types: []api.TypeDecl{{Name: "bit"}}, Oracles: []string{"zeal"}}))
}

func apart() api.Theory {
	return must(theory.Extend(theory.Pure(), "Apart", api.Theory{Types: []api.TypeDecl{{Name: "apart"}}}))
}

const (
	imp = "imp:fun(prop, fun(prop, prop))"
	all = "all:fun(fun(nat, prop), prop)"
	eqn = "eq:fun(nat, fun(nat, prop))"
	eqp = "eq:fun(prop, fun(prop, prop))"
	pn  = "$p:fun(nat, prop)"
)

func assume(s string) kernel.Theorem { return must(kernel.Assume(numbers(), read(s))) }
func trust(s string) kernel.Theorem  { return must(kernel.Oracle(numbers(), "trust", read(s))) }
func refl(s string) kernel.Theorem   { return must(kernel.Reflexive(numbers(), read(s))) }

// want looks whether a theorem states something, with hypotheses, oracles and a proof.
func want(t *testing.T, x kernel.Theorem, e api.Errno, prop string, hyps []string, oracles []string, p api.Proof) {
	t.Helper()
	if e != api.OK || !x.Is() {
		t.Error("error", e)
		return
	}
	if got := text(x.Prop()); !term.Equal(x.Prop(), read(prop)) {
		t.Error("proposition", got)
	}
	var l []string
	for _, h := range x.Hyps() {
		l = append(l, text(h))
	}
	for i, h := range hyps {
		hyps[i] = text(read(h))
	}
	if !slices.Equal(l, hyps) || !slices.Equal(x.Oracles(), oracles) {
		t.Error("hypotheses, oracles", l, x.Oracles())
	}
	if !proof.Equal(x.Proof(), p) {
		t.Error("proof", x.Proof())
	}
}

func node(op int, kids ...api.Proof) api.Proof { return api.Proof{Op: op, Kids: kids} }

func with(op int, s string, kids ...api.Proof) api.Proof {
	return api.Proof{Op: op, Term: read(s), Kids: kids}
}

func TestNone(t *testing.T) {
	var x kernel.Theorem
	if x.Is() || len(x.Hyps()) > 0 || len(x.Oracles()) > 0 || !term.Equal(x.Prop(), api.Term{}) || x.Theory().Name != "" || len(x.Theory().Types) > 0 || !proof.Equal(x.Proof(), api.Proof{}) {
		t.Error("the zero value is something")
	}
	a, thy := read("$A:P"), numbers()
	y := assume("$A:P")
	bad := api.Theory{Name: "1"}
	for i, e := range []api.Errno{
		second(kernel.ImpIntro(api.Term{Op: api.Bound, Num: 3}, x)), second(kernel.ImpElim(x, y)), second(kernel.ImpElim(y, x)), second(kernel.ImpElim(x, x)), second(kernel.AllIntro(api.Term{}, x)), second(kernel.AllElim(api.Term{}, x)),
		second(kernel.Symmetric(x)), second(kernel.Transitive(x, y)), second(kernel.Transitive(y, x)), second(kernel.Combination(y, x)), second(kernel.Combination(x, y)), second(kernel.Abstraction(a, x)),
		second(kernel.EqIntro(x, y)), second(kernel.EqIntro(y, x)), second(kernel.EqElim(x, y)), second(kernel.EqElim(y, x)), second(kernel.Instantiate(api.Inst{Types: make([]api.TypeBind, 200)}, x)),
		second(kernel.Generalize(nil, nil, -1, x)), second(kernel.Transfer(bad, x)), second(kernel.Transfer(thy, x)),
	} {
		if e != kernel.ErrNone {
			t.Error(i, e)
		}
	}
}

func second(x kernel.Theorem, e api.Errno) api.Errno {
	if x.Is() != (e == api.OK) {
		return -1
	}
	return e
}

func TestRules(t *testing.T) {
	thy := numbers()
	a, b := assume("$A:P"), assume("$B:P")
	pa, pb := with(api.Assume, "$A:P"), with(api.Assume, "$B:P")
	do := func(x kernel.Theorem, e api.Errno) func(prop string, hyps []string, oracles []string, p api.Proof) {
		return func(prop string, hyps []string, oracles []string, p api.Proof) {
			t.Helper()
			want(t, x, e, prop, hyps, oracles, p)
		}
	}
	do(kernel.Axiom(thy, "ax"))("?A.0:P", nil, nil, api.Proof{Op: api.ByAxiom, Name: "ax"})
	do(kernel.Axiom(theory.Pure(), "protect_def"))("(("+eqp+" (protect:fun(prop, prop) ?A.0:P)) ?A.0:P)", nil, nil, api.Proof{Op: api.ByAxiom, Name: "protect_def"})
	do(kernel.Oracle(thy, "guess", read("$A:P")))("$A:P", nil, []string{"guess"}, api.Proof{Op: api.ByOracle, Name: "guess", Term: read("$A:P")})
	do(kernel.Assume(thy, read("$A:P")))("$A:P", []string{"$A:P"}, nil, pa)
	do(kernel.ImpIntro(read("$A:P"), a))("(("+imp+" $A:P) $A:P)", nil, nil, with(api.ImpIntro, "$A:P", pa))
	do(kernel.ImpIntro(read("$B:P"), a))("(("+imp+" $B:P) $A:P)", []string{"$A:P"}, nil, with(api.ImpIntro, "$B:P", pa))
	ab := assume("((" + imp + " $A:P) $B:P)")
	pab := with(api.Assume, "(("+imp+" $A:P) $B:P)")
	do(kernel.ImpElim(ab, a))("$B:P", []string{"$A:P", "((" + imp + " $A:P) $B:P)"}, nil, node(api.ImpElim, pab, pa))
	x := refl("$x:N")
	px := with(api.Reflexive, "$x:N")
	do(x, api.OK)("(("+eqn+" $x:N) $x:N)", nil, nil, px)
	do(kernel.AllIntro(read("$x:N"), x))("("+all+" (\\x:N . (("+eqn+" #0) #0)))", nil, nil, with(api.AllIntro, "$x:N", px))
	do(kernel.AllIntro(read("$y:N"), a))("("+all+" (\\y:N . $A:P))", []string{"$A:P"}, nil, with(api.AllIntro, "$y:N", pa))
	every := must(kernel.AllIntro(read("$x:N"), x))
	do(kernel.AllElim(read("zero:N"), every))("(("+eqn+" zero:N) zero:N)", nil, nil, with(api.AllElim, "zero:N", with(api.AllIntro, "$x:N", px)))
	xy := trust("((" + eqn + " $x:N) $y:N)")
	yz := trust("((" + eqn + " $y:N) $z:N)")
	pxy, pyz := xy.Proof(), yz.Proof()
	do(kernel.Symmetric(xy))("(("+eqn+" $y:N) $x:N)", nil, []string{"trust"}, node(api.Symmetric, pxy))
	do(kernel.Transitive(xy, yz))("(("+eqn+" $x:N) $z:N)", nil, []string{"trust"}, node(api.Transitive, pxy, pyz))
	f := refl("suc:fun(nat, nat)")
	do(kernel.Combination(f, xy))("(("+eqn+" (suc:fun(nat, nat) $x:N)) (suc:fun(nat, nat) $y:N))", nil, []string{"trust"}, node(api.Combination, f.Proof(), pxy))
	do(kernel.Abstraction(read("$x:N"), xy))("((eq:fun(fun(nat, nat), fun(fun(nat, nat), prop)) (\\x:N . #0)) (\\x:N . $y:N))", nil, []string{"trust"}, with(api.Abstraction, "$x:N", pxy))
	redex := "((\\x:N . (suc:fun(nat, nat) #0)) $y:N)"
	do(kernel.Beta(thy, read(redex)))("(("+eqn+" "+redex+") (suc:fun(nat, nat) $y:N))", nil, nil, with(api.Beta, redex))
	eta := "(\\x:N . ((\\y:N . suc:fun(nat, nat)) #0))"
	eta = "(\\x:N . (suc:fun(nat, nat) #0))"
	do(kernel.Eta(thy, read(eta)))("((eq:fun(fun(nat, nat), fun(fun(nat, nat), prop)) "+eta+") suc:fun(nat, nat))", nil, nil, with(api.Eta, eta))
	ba := assume("((" + imp + " $B:P) $A:P)")
	do(kernel.EqIntro(ab, ba))("(("+eqp+" $A:P) $B:P)", []string{"((" + imp + " $A:P) $B:P)", "((" + imp + " $B:P) $A:P)"}, nil, node(api.EqIntro, pab, ba.Proof()))
	eq := assume("((" + eqp + " $A:P) $B:P)")
	do(kernel.EqElim(eq, a))("$B:P", []string{"$A:P", "((" + eqp + " $A:P) $B:P)"}, nil, node(api.EqElim, eq.Proof(), pa))
	do(kernel.Transfer(more(), b))("$B:P", []string{"$B:P"}, nil, pb)
	if y := must(kernel.Transfer(more(), b)); y.Theory().Name != "More" || b.Theory().Name != "Numbers" {
		t.Error("Transfer")
	}
}

// Names of bound variables play no part, but stand as they were given.
func TestBoundNames(t *testing.T) {
	a := assume("((" + imp + " (" + all + " (\\x:N . (" + pn + " #0)))) $A:P)")
	b := assume("(" + all + " (\\y:N . (" + pn + " #0)))")
	x, e := kernel.ImpElim(a, b)
	if e != api.OK || text(x.Prop()) != "$A:prop" || len(x.Hyps()) != 2 {
		t.Error(e)
	}
	y, e := kernel.ImpIntro(read("("+all+" (\\z:N . ("+pn+" #0)))"), b)
	if e != api.OK || len(y.Hyps()) != 0 || !strings.Contains(text(y.Prop()), "\\z") || !strings.Contains(text(y.Prop()), "\\y") {
		t.Error(e, text(y.Prop()))
	}
	// never up to beta or eta
	c := assume("((" + eqn + " $x:N) ((\\x:N . #0) $y:N))")
	if _, e := kernel.Transitive(c, refl("$y:N")); e != api.ErrFail {
		t.Error(e)
	}
	if _, e := kernel.Transitive(c, refl("((\\z:N . #0) $y:N)")); e != api.OK {
		t.Error(e)
	}
}

func TestErrorsOfTheories(t *testing.T) {
	bad := numbers()
	bad.Name = "1"
	worse := numbers()
	worse.Types = append(worse.Types, api.TypeDecl{Name: "nat"})
	for i, c := range []struct {
		thy api.Theory
		e   api.Errno
	}{{bad, api.ErrForm}, {worse, api.ErrDuplicate}, {api.Theory{Name: "T"}, api.ErrTheory}, {api.Theory{}, api.ErrForm}} {
		for k, e := range []api.Errno{
			second(kernel.Axiom(c.thy, "none")), second(kernel.Oracle(c.thy, "none", api.Term{})), second(kernel.Assume(c.thy, api.Term{})), second(kernel.Reflexive(c.thy, api.Term{})),
			second(kernel.Beta(c.thy, api.Term{})), second(kernel.Eta(c.thy, api.Term{})), second(kernel.Transfer(c.thy, assume("$A:P"))),
		} {
			if e != c.e {
				t.Error(i, k, e, c.e)
			}
		}
	}
	if e := second(kernel.Transfer(apart(), assume("$A:P"))); e != api.ErrTheory {
		t.Error(e)
	}
	if e := second(kernel.Transfer(theory.Pure(), assume("$A:P"))); e != api.ErrTheory {
		t.Error(e)
	}
}

// The theory of a result is the greater one; of two that are within each other it is that of the second theorem.
func TestTheoryOfResult(t *testing.T) {
	again := numbers()
	again.Name = "Again"
	in := func(thy api.Theory) kernel.Theorem { return must(kernel.Assume(thy, read("$A:P"))) }
	for i, c := range []struct {
		a, b api.Theory
		name string
	}{{numbers(), more(), "More"}, {more(), numbers(), "More"}, {numbers(), again, "Again"}, {again, numbers(), "Numbers"}, {theory.Pure(), apart(), "Apart"}, {apart(), more(), ""}} {
		e := must(kernel.ImpIntro(read("$A:P"), in(c.a)))
		x, code := kernel.ImpElim(e, in(c.b))
		if c.name == "" && code != api.ErrTheory || c.name != "" && (code != api.OK || x.Theory().Name != c.name) {
			t.Error(i, code, x.Theory().Name)
		}
		y, code := kernel.EqIntro(e, must(kernel.ImpIntro(read("$A:P"), in(c.b))))
		if c.name != "" && (code != api.OK || y.Theory().Name != c.name) {
			t.Error(i, code)
		}
	}
	// a term is one of the theory of the result
	if e := second(kernel.AllElim(read("$x:bit"), in(numbers()))); e != api.ErrMissing {
		t.Error(e)
	}
	if e := second(kernel.ImpIntro(read("((eq:fun(bit, fun(bit, prop)) $x:bit) $x:bit)"), in(more()))); e != api.OK {
		t.Error(e)
	}
	// theories come ahead of sorts and types
	x := must(kernel.Reflexive(apart(), read("$x:apart")))
	for i, e := range []api.Errno{second(kernel.ImpElim(x, refl("$x:N"))), second(kernel.Combination(refl("$x:N"), x)), second(kernel.Transitive(refl("$x:N"), x))} {
		if e != api.ErrTheory {
			t.Error(i, e)
		}
	}
}

func TestErrorsOfTerms(t *testing.T) {
	thy, a := numbers(), assume("$A:P")
	loose, missing, untyped := api.Term{Op: api.Bound}, read("none:P"), read("($x:N $x:N)")
	typeMissing, sortMissing := read("$x:none"), read("$x:'a{none}")
	for i, c := range []struct {
		t api.Term
		e api.Errno
	}{{api.Term{}, api.ErrForm}, {loose, term.ErrLoose}, {missing, api.ErrMissing}, {untyped, api.ErrType}, {typeMissing, api.ErrMissing}, {sortMissing, api.ErrMissing}, {read("$x:'a{c,d}"), api.ErrSort}, {read("k:prop"), api.ErrType}, {read("k:list(nat)"), api.OK}} {
		rules := []api.Errno{
			second(kernel.Oracle(thy, "none", c.t)), second(kernel.Assume(thy, c.t)), second(kernel.Reflexive(thy, c.t)), second(kernel.Beta(thy, c.t)), second(kernel.Eta(thy, c.t)),
			second(kernel.ImpIntro(c.t, a)), second(kernel.AllIntro(c.t, a)), second(kernel.AllElim(c.t, a)), second(kernel.Abstraction(c.t, a)), second(kernel.Instantiate(api.Inst{Terms: []api.TermBind{{Name: "x", To: c.t}}}, a)),
		}
		wanted := []api.Errno{c.e, c.e, c.e, c.e, c.e, c.e, c.e, c.e, c.e, c.e}
		if c.e == api.OK {
			wanted = []api.Errno{api.ErrType, api.ErrType, api.OK, api.ErrFail, api.ErrFail, api.ErrType, api.ErrForm, api.ErrFail, api.ErrForm, api.OK}
		}
		if !slices.Equal(rules, wanted) {
			t.Error(i, rules, wanted)
		}
	}
}

// Variables of a term and of a theorem, or of two theorems, are the same; sorts come first, and both ahead of what the table wants.
func TestVariablesFit(t *testing.T) {
	x := assume("(($p:fun('a{c}, fun(nat, prop)) $x:'a{c}) $y:N)")
	for i, c := range []struct {
		s string
		e api.Errno
	}{
		{"$x:'a", api.ErrSort}, {"$z:'a{d}", api.ErrSort}, {"$x:N", api.ErrType}, {"$y:P", api.ErrType}, {"($f:fun('a, prop) $y:'a)", api.ErrSort}, {"?y.0:P", 0}, {"?z.0:?a.0", 0}, {"$z:'b", 0},
	} {
		u := read(c.s)
		rules := []api.Errno{second(kernel.AllIntro(u, x)), second(kernel.AllElim(u, x)), second(kernel.Abstraction(u, x))}
		wanted := []api.Errno{c.e, c.e, c.e}
		if c.e == 0 {
			wanted = []api.Errno{api.OK, api.ErrFail, api.ErrFail}
			if u.Op == api.Var {
				wanted = []api.Errno{api.ErrForm, api.ErrFail, api.ErrForm}
			}
		}
		if !slices.Equal(rules, wanted) {
			t.Error(i, rules, wanted)
		}
	}
	if e := second(kernel.ImpIntro(read("$x:P"), x)); e != api.ErrType {
		t.Error("A of ImpIntro", e)
	}
	if e := second(kernel.ImpIntro(read("$x:'b"), x)); e != api.ErrType {
		t.Error("no proposition", e)
	}
	one, two := assume("($q:fun(?a.0, prop) $x:?a.0)"), assume("($r:fun(?a.0{c}, prop) $x:?a.0{c})")
	three, four := assume("$x:P"), assume("?A.3:P")
	five := must(kernel.Assume(numbers(), read("($r:fun(nat, prop) ?A.3:N)")))
	for i, c := range []struct {
		a, b kernel.Theorem
		e    api.Errno
	}{{one, two, api.ErrSort}, {two, one, api.ErrSort}, {one, three, api.ErrType}, {four, five, api.ErrType}, {three, four, api.ErrFail}, {one, one, api.ErrFail}} {
		for k, e := range []api.Errno{second(kernel.ImpElim(c.a, c.b)), second(kernel.Transitive(c.a, c.b)), second(kernel.Combination(c.a, c.b)), second(kernel.EqIntro(c.a, c.b)), second(kernel.EqElim(c.a, c.b))} {
			if e != c.e {
				t.Error(i, k, e)
			}
		}
	}
	// variables that are gone play no part any more
	gone := must(kernel.ImpElim(must(kernel.ImpIntro(read("$x:P"), assume("$A:P"))), must(kernel.Oracle(numbers(), "trust", read("$x:P")))))
	if e := second(kernel.AllIntro(read("$x:N"), gone)); e != api.OK {
		t.Error(e)
	}
}

func TestWhatRulesWant(t *testing.T) {
	thy := numbers()
	a, b := assume("$A:P"), assume("$B:P")
	ab := trust("((" + imp + " $A:P) $B:P)")
	xy, nn := trust("(("+eqn+" $x:N) $y:N)"), trust("(("+eqn+" zero:N) zero:N)")
	ff := refl("$f:fun(prop, nat)")
	every := trust("(" + all + " (\\x:N . (" + pn + " #0)))")
	alls := trust("(" + all + " " + pn + ")")
	px := assume("(" + pn + " $x:N)")
	xx := assume("((" + eqn + " $x:N) $x:N)")
	eqAB := trust("((" + eqp + " $A:P) $B:P)")
	for i, c := range []struct{ got, e api.Errno }{
		{second(kernel.Axiom(thy, "none")), api.ErrMissing}, {second(kernel.Axiom(thy, "")), api.ErrMissing}, {second(kernel.Oracle(thy, "ax", read("$A:P"))), api.ErrMissing}, {second(kernel.Oracle(thy, "none", read("$x:N"))), api.ErrType},
		{second(kernel.ImpElim(a, b)), api.ErrFail}, {second(kernel.ImpElim(ab, b)), api.ErrFail}, {second(kernel.ImpElim(eqAB, a)), api.ErrFail}, {second(kernel.ImpElim(ab, a)), api.OK},
		{second(kernel.AllIntro(read("?x.0:N"), xy)), api.ErrForm}, {second(kernel.AllIntro(read("zero:N"), px)), api.ErrForm}, {second(kernel.AllIntro(read("$x:N"), px)), api.ErrFail}, {second(kernel.AllIntro(read("$y:N"), px)), api.OK}, {second(kernel.AllIntro(read("$p:fun(nat, prop)"), px)), api.ErrFail},
		{second(kernel.AllElim(read("zero:N"), a)), api.ErrFail}, {second(kernel.AllElim(read("zero:N"), alls)), api.ErrFail}, {second(kernel.AllElim(read("$A:P"), alls)), api.ErrFail}, {second(kernel.AllElim(read("$A:P"), every)), api.ErrType}, {second(kernel.AllElim(read("zero:N"), every)), api.OK}, {second(kernel.AllElim(read("zero:N"), ab)), api.ErrFail},
		{second(kernel.Symmetric(a)), api.ErrFail}, {second(kernel.Symmetric(ab)), api.ErrFail}, {second(kernel.Transitive(xy, a)), api.ErrFail}, {second(kernel.Transitive(a, xy)), api.ErrFail}, {second(kernel.Transitive(xy, xy)), api.ErrFail}, {second(kernel.Transitive(xy, nn)), api.ErrFail},
		{second(kernel.Combination(a, xy)), api.ErrFail}, {second(kernel.Combination(ff, a)), api.ErrFail}, {second(kernel.Combination(ff, xy)), api.ErrType}, {second(kernel.Combination(xy, xy)), api.ErrType}, {second(kernel.Combination(ff, eqAB)), api.OK}, {second(kernel.Combination(refl("$g:'a"), xy)), api.ErrType},
		{second(kernel.Abstraction(read("?x.0:N"), a)), api.ErrForm}, {second(kernel.Abstraction(read("$x:N"), px)), api.ErrFail}, {second(kernel.Abstraction(read("$x:N"), xx)), api.ErrFail}, {second(kernel.Abstraction(read("$z:N"), xx)), api.OK},
		{second(kernel.Beta(thy, read("$A:P"))), api.ErrFail}, {second(kernel.Beta(thy, read("(suc:fun(nat, nat) zero:N)"))), api.ErrFail}, {second(kernel.Beta(thy, read("(\\x:N . ((\\y:N . #0) #0))"))), api.ErrFail}, {second(kernel.Beta(thy, read("(((\\x:N . (\\y:N . #1)) zero:N) zero:N)"))), api.ErrFail},
		{second(kernel.Eta(thy, read("suc:fun(nat, nat)"))), api.ErrFail}, {second(kernel.Eta(thy, read("(\\x:N . #0)"))), api.ErrFail}, {second(kernel.Eta(thy, read("(\\x:N . (suc:fun(nat, nat) zero:N))"))), api.ErrFail}, {second(kernel.Eta(thy, read("(\\x:N . (($g:fun(nat, fun(nat, nat)) #0) #0))"))), api.ErrFail}, {second(kernel.Eta(thy, read("(\\x:N . (\\y:N . (($g:fun(nat, fun(nat, nat)) #1) #0)))"))), api.ErrFail}, {second(kernel.Eta(thy, read("(\\x:N . ((\\y:N . (suc:fun(nat, nat) #1)) #0))"))), api.ErrFail}, {second(kernel.Eta(thy, read("(\\x:N . ((\\y:N . (suc:fun(nat, nat) #0)) #0))"))), api.OK},
		{second(kernel.EqIntro(ab, ab)), api.ErrFail}, {second(kernel.EqIntro(a, ab)), api.ErrFail}, {second(kernel.EqIntro(ab, a)), api.ErrFail}, {second(kernel.EqIntro(trust("(("+imp+" $A:P) $A:P)"), trust("(("+imp+" $A:P) $A:P)"))), api.OK},
		{second(kernel.EqElim(a, a)), api.ErrFail}, {second(kernel.EqElim(eqAB, b)), api.ErrFail}, {second(kernel.EqElim(xy, a)), api.ErrFail}, {second(kernel.EqElim(eqAB, a)), api.OK},
	} {
		if c.got != c.e {
			t.Error(i, c.got, c.e)
		}
	}
	// the name of a hypothesis's variable counts, whatever its type; it cannot differ, since types are asked first
	if e := second(kernel.AllIntro(read("$x:P"), px)); e != api.ErrType {
		t.Error(e)
	}
	// what stands below an eta redex
	x := must(kernel.Eta(thy, read("(\\x:N . ((\\y:N . (\\z:N . #0)) #0))")))
	if _, r, _ := term.IsEq(x.Prop()); text(r) != "(\\y:nat . (\\z:nat . #0))" {
		t.Error(text(r))
	}
}

func TestHypothesesAndOracles(t *testing.T) {
	thy := numbers()
	names := []string{"C", "A", "B", "A", "D"}
	x := must(kernel.Oracle(thy, "trust", read("$Z:P")))
	for i, n := range names {
		y := must(kernel.Assume(thy, read("$"+n+":P")))
		if i%2 == 1 {
			y = must(kernel.ImpElim(must(kernel.ImpIntro(read("$Q:P"), y)), must(kernel.Oracle(thy, "guess", read("$Q:P")))))
		}
		x = must(kernel.ImpElim(must(kernel.ImpIntro(read("$"+n+"9:P"), x)), must(kernel.ImpElim(must(kernel.ImpIntro(read("$"+n+":P"), must(kernel.Oracle(thy, "trust", read("$"+n+"9:P"))))), y))))
	}
	var l []string
	for _, h := range x.Hyps() {
		l = append(l, h.Name)
	}
	if strings.Join(l, "") != "ABCD" || !slices.Equal(x.Oracles(), []string{"guess", "trust"}) {
		t.Error(l, x.Oracles())
	}
	y := must(kernel.ImpIntro(read("$B:P"), x))
	if len(y.Hyps()) != 3 || len(x.Hyps()) != 4 || !slices.Equal(y.Oracles(), x.Oracles()) {
		t.Error(len(y.Hyps()))
	}
	z := must(kernel.Transfer(more(), y))
	if len(z.Hyps()) != 3 || !slices.Equal(z.Oracles(), x.Oracles()) || !proof.Equal(z.Proof(), y.Proof()) {
		t.Error("Transfer")
	}
}
