package pattern_test

import (
	"slices"
	"testing"

	"triforium/api"
	"triforium/pattern"
	"triforium/term"
	"triforium/types"
)

func TestMatch(t *testing.T) {
	thy := world()
	for i, x := range []struct{ p, t, want string }{
		{`zero:n`, `zero:n`, ``}, {`?F.0:n`, `zero:n`, `?F.0 := zero:n`}, {`?F.0:n`, `?F.0:n`, `?F.0 := ?F.0:n`}, {`?F.0:n`, `(suc:n1 ?F.0:n)`, `?F.0 := (suc:n1 ?F.0:n)`},
		{`((add:n2 ?x.0:n) ?y.0:n)`, `((add:n2 ?y.0:n) ?x.0:n)`, `?x.0 := ?y.0:n; ?y.0 := ?x.0:n`}, {`((add:n2 ?x.0:n) ?x.0:n)`, `((add:n2 $k:n) $k:n)`, `?x.0 := $k:n`},
		{`(\x:n . (?F.0:n1 #0))`, `(\x:n . ((add:n2 #0) #0))`, `?F.0 := (\x:n . ((add:n2 #0) #0))`}, {`(\x:n . ?F.0:n)`, `(\x:n . zero:n)`, `?F.0 := zero:n`},
		{`(\x:n . (\y:n . ((?F.0:n2 #0) #1)))`, `(\x:n . (\y:n . ((add:n2 #1) (suc:n1 #0))))`, `?F.0 := (\x:n . (\x:n . ((add:n2 #0) (suc:n1 #1))))`},
		{`(\x:n . (\y:n . ($g:n2 (?F.0:n1 #1))))`, `(\x:n . (\y:n . ($g:n2 (suc:n1 #1))))`, `?F.0 := (\x:n . (suc:n1 #0))`},
		{`($g:fun(fun(nat, nat), nat) (\x:n . (?F.0:n1 #0)))`, `($g:fun(fun(nat, nat), nat) (\y:n . ($h:fun(fun(nat, nat), nat) (\z:n . ((add:n2 #1) #0)))))`, `?F.0 := (\x:n . ($h:fun(fun(nat, nat), nat) (\z:n . ((add:n2 #1) #0))))`},
		// eta: on either side, and at further places
		{`(\x:n . (?F.0:n1 #0))`, `suc:n1`, `?F.0 := (\x:n . (suc:n1 #0))`}, {`?F.0:n1`, `suc:n1`, `?F.0 := suc:n1`}, {`?F.0:n1`, `(\x:n . (suc:n1 #0))`, `?F.0 := (\x:n . (suc:n1 #0))`}, {`suc:n1`, `(\x:n . (suc:n1 #0))`, ``},
		{`((pair:fun(fun(nat, nat), fun(fun(nat, nat), nat)) ?F.0:n1) (\x:n . (?F.0:n1 #0)))`, `((pair:fun(fun(nat, nat), fun(fun(nat, nat), nat)) suc:n1) suc:n1)`, `?F.0 := suc:n1`},
		{`((pair:fun(fun(nat, nat), fun(nat, nat)) (\x:n . (?F.0:n1 #0))) ?x.0:n)`, `((pair:fun(fun(nat, nat), fun(nat, nat)) suc:n1) zero:n)`, `?F.0 := (\x:n . (suc:n1 #0)); ?x.0 := zero:n`},
		// the normal form of the term is matched
		{`(suc:n1 ?x.0:n)`, `((\x:n . (suc:n1 #0)) zero:n)`, `?x.0 := zero:n`}, {`?x.0:n`, `((\x:n . #0) zero:n)`, `?x.0 := zero:n`}, {`zero:n`, `((\x:n . zero:n) ((\x:n . #0) $y:n))`, ``},
		// types
		{`?x.0:?a.0`, `zero:n`, `?a.0 := nat; ?x.0 := zero:n`}, {`?x.0:?a.0`, `?x.0:?a.0`, `?a.0 := ?a.0; ?x.0 := ?x.0:?a.0`}, {`(size:fun(?a.0, nat) ?x.0:?a.0)`, `(size:fun(list(?a.0), nat) nil:list(?a.0))`, `?a.0 := list(?a.0); ?x.0 := nil:list(?a.0)`},
		{`?f.0:?a.0`, `(\x:n . (\y:p . #1))`, `?a.0 := fun(nat, fun(prop, nat)); ?f.0 := (\x:n . (\x:p . #1))`}, {`nil:list(?b.3)`, `nil:list(list(nat))`, `?b.3 := list(nat)`}, {`(\x:?a.0 . #0)`, `(\x:n . #0)`, `?a.0 := nat`},
		{`(mk:fun(?a.0{c}, nat) ?x.0:?a.0{c})`, `(mk:fun(list('b{c}), nat) $z:list('b{c}))`, `?a.0 := list('b{c}); ?x.0 := $z:list('b{c})`}, {`$x:?a.0`, `$x:n`, `?a.0 := nat`},
		{`((pair:fun(?b.0, fun(?a.0, nat)) ?y.0:?b.0) ?x.0:?a.0)`, `((pair:fun(nat, fun(prop, nat)) zero:n) $x:p)`, `?a.0 := prop; ?b.0 := nat; ?x.0 := $x:p; ?y.0 := zero:n`},
	} {
		got, e := pattern.Match(thy, tm(x.p), tm(x.t))
		if e != api.OK || text(got) != short.Replace(x.want) {
			t.Errorf("%d: %v %s\n want %s", i, e, text(got), short.Replace(x.want))
		}
		n, _ := term.Norm(term.Apply(got, tm(x.p)), 1000)
		m, _ := term.Norm(tm(x.t), 1000)
		if e == api.OK && !term.Equal(term.Eta(n), term.Eta(m)) {
			t.Error(i, "not equal")
		}
	}
}

func TestMatchFails(t *testing.T) {
	thy := world()
	for i, x := range [][2]string{
		{`zero:n`, `?x.0:n`}, {`(suc:n1 ?x.0:n)`, `?x.0:n`}, {`(suc:n1 ?x.0:n)`, `zero:n`}, {`$x:n`, `$y:n`}, {`$x:n`, `?x.0:n`}, {`((add:n2 ?x.0:n) ?x.0:n)`, `((add:n2 $k:n) $l:n)`}, {`((add:n2 ?x.0:n) zero:n)`, `((add:n2 $k:n) $l:n)`},
		{`(\x:n . ?F.0:n)`, `(\x:n . #0)`}, {`(\x:n . (\y:n . (?F.0:n1 #1)))`, `(\x:n . (\y:n . ((add:n2 #1) #0)))`}, {`(\x:n . (\y:n . #0))`, `(\x:n . (\y:n . #1))`}, {`(\x:n . ?F.0:n)`, `suc:n1`},
		{`?x.0:n`, `$x:p`}, {`?x.0:?a.0{c}`, `$x:p`}, {`nil:list(nat)`, `nil:list(?a.0)`}, {`suc:n1`, `(add:n2 zero:n)`},
		{`((pair:fun(?a.0, fun(?a.0, nat)) ?x.0:?a.0) ?y.0:?a.0)`, `((pair:fun(nat, fun(prop, nat)) zero:n) $x:p)`}, {`(size:fun(?a.0, nat) $x:?a.0)`, `(size:fun(nat, nat) $y:n)`},
		{`((pair:fun(fun(nat, nat), fun(fun(nat, nat), nat)) ?F.0:n1) (\x:n . (?F.0:n1 #0)))`, `((pair:fun(fun(nat, nat), fun(fun(nat, nat), nat)) suc:n1) (\x:n . #0))`},
	} {
		if got, e := pattern.Match(thy, tm(x[0]), tm(x[1])); e != api.ErrFail || text(got) != "" {
			t.Error(i, e, text(got))
		}
	}
}

// stepping returns a term that n steps make normal.
func stepping(n int) api.Term {
	t := tm(`zero:n`)
	for range n {
		t = term.Apps(tm(`(\x:n . #0)`), []api.Term{t})
	}
	return t
}

func TestMatchErrors(t *testing.T) {
	thy := world()
	for i, x := range []struct {
		p, t api.Term
		want api.Errno
	}{
		{tm(`no:n`), tm(`zero:p`), api.ErrMissing}, {tm(`zero:n`), tm(`zero:p`), api.ErrType}, {api.Term{}, tm(`no:n`), api.ErrForm}, {tm(`zero:n`), api.Term{Op: api.Bound}, term.ErrLoose},
		{tm(`((add:n2 $x:n) (size:fun(prop, nat) $x:p))`), tm(`zero:n`), api.ErrType}, {tm(`(size:fun('a, nat) (\x:'a{c} . #0))`), tm(`zero:n`), api.ErrSort},
		// variables of both may differ
		{tm(`(size:fun(nat, nat) ?x.0:n)`), tm(`(size:fun(nat, nat) (size:fun(prop, nat) ?x.0:p))`), api.OK}, {tm(`(size:fun(?a.0, nat) ?x.0:?a.0)`), tm(`(size:fun(?a.0{c}, nat) $y:?a.0{c})`), api.OK},
		{tm(`(?F.0:n1 zero:n)`), tm(`no:n`), api.ErrMissing}, {tm(`(?F.0:n1 zero:n)`), tm(`$x:p`), pattern.ErrPattern}, {tm(`?x.0:n`), tm(`(?F.0:n1 zero:n)`), api.OK},
		{tm(`?x.0:n`), stepping(200), api.OK}, {tm(`?x.0:p`), stepping(200), api.ErrFail}, {tm(`?F.0:n`), filled(19999), api.OK},
		// 1000 steps, but a depth of 1000 is none of a term, so that they stand beside each other
		{tm(`?x.0:n`), sum(1000), api.OK}, {tm(`?x.0:n`), sum(1001), api.ErrFuel}, {tm(`(?F.0:n1 zero:n)`), sum(1001), pattern.ErrPattern}, {tm(`?x.0:p`), sum(1001), api.ErrFuel},
	} {
		if _, e := pattern.Match(thy, x.p, x.t); e != x.want {
			t.Error(i, e, x.want)
		}
	}
	if _, e := pattern.Match(api.Theory{Classes: []api.Class{{}}}, tm(`zero:n`), tm(`zero:n`)); e == api.OK || e == api.ErrFail {
		t.Error(e)
	}
}

// sum returns a term with n redexes beside each other.
func sum(n int) api.Term {
	l := []api.Term{}
	for range n {
		l = append(l, tm(`((\x:n . #0) zero:n)`))
	}
	for len(l) > 1 {
		var next []api.Term
		for i := 0; i+1 < len(l); i += 2 {
			next = append(next, term.Apps(tm(`add:n2`), l[i:i+2]))
		}
		if len(l)%2 == 1 {
			next = append(next, l[len(l)-1])
		}
		l = next
	}
	return l[0]
}

// What a bind has beyond the term are its abstractions, and the arguments of what was written with eta.
func TestMatchLarge(t *testing.T) {
	thy := world()
	for _, n := range []int{19996, 19997, 19998} {
		// f has n - 1 nodes, and is applied to a variable behind an abstraction
		f := term.Apps(tm(`pair:fun(nat, fun(nat, nat))`), []api.Term{filled(n - 3)})
		if m, _ := term.Size(f); m != n-1 {
			t.Fatal(m)
		}
		want := api.OK
		if n+2 > api.MaxTerm {
			want = api.ErrLarge
		}
		if _, e := pattern.Match(thy, tm(`(\x:n . (?F.0:n1 #0))`), f); e != want {
			t.Error(n, e)
		}
		if _, e := pattern.Match(thy, tm(`?F.0:n1`), f); e != api.OK {
			t.Error(n, e)
		}
	}
}

// filled returns a term with n nodes.
func filled(n int) api.Term {
	switch {
	case n == 1:
		return tm(`zero:n`)
	case n == 2:
		panic("no term")
	case n%2 == 0:
		return term.Apps(tm(`size:fun(fun(nat, nat), nat)`), []api.Term{{Op: api.Abs, Type: ty("nat"), Kids: []api.Term{filled(n - 3)}}})
	case n == 3:
		return tm(`(suc:n1 zero:n)`)
	}
	left := (n - 3) / 2
	if left%2 == 0 {
		left--
	}
	return term.Apps(tm(`add:n2`), []api.Term{filled(left), filled(n - 3 - left)})
}

func TestLeast(t *testing.T) {
	thy := world()
	inst := func(l ...string) api.Inst {
		var i api.Inst
		for k := 0; k+1 < len(l); k += 2 {
			v := tm(l[k])
			i.Terms = append(i.Terms, api.TermBind{Name: v.Name, Index: v.Num, To: tm(l[k+1])})
		}
		return i
	}
	x, y, f := tm(`?x.0:n`), tm(`?y.0:n`), tm(`?F.0:n1`)
	for i, c := range []struct {
		general, special api.Inst
		vars             []api.Term
		want             bool
		e                api.Errno
	}{
		{inst(), inst(), nil, true, api.OK}, {inst(), inst(), []api.Term{x, y, f}, true, api.OK}, {inst(), inst(`?x.0:n`, `zero:n`), []api.Term{x}, true, api.OK}, {inst(`?x.0:n`, `zero:n`), inst(), []api.Term{x}, false, api.OK},
		{inst(`?x.0:n`, `(suc:n1 ?z.5:n)`), inst(`?x.0:n`, `(suc:n1 zero:n)`), []api.Term{x}, true, api.OK}, {inst(`?x.0:n`, `(suc:n1 ?z.5:n)`), inst(`?x.0:n`, `zero:n`), []api.Term{x}, false, api.OK},
		// all together
		{inst(`?x.0:n`, `?z.0:n`, `?y.0:n`, `?z.0:n`), inst(`?x.0:n`, `zero:n`, `?y.0:n`, `zero:n`), []api.Term{x, y}, true, api.OK},
		{inst(`?x.0:n`, `?z.0:n`, `?y.0:n`, `?z.0:n`), inst(`?x.0:n`, `zero:n`, `?y.0:n`, `$k:n`), []api.Term{x, y}, false, api.OK},
		{inst(`?x.0:n`, `?z.0:n`, `?y.0:n`, `?z.0:n`), inst(`?x.0:n`, `zero:n`, `?y.0:n`, `$k:n`), []api.Term{y}, true, api.OK},
		{inst(`?F.0:n1`, `(\x:n . (?G.0:n1 #0))`), inst(`?F.0:n1`, `suc:n1`), []api.Term{f}, true, api.OK}, {inst(`?F.0:n1`, `(\x:n . ?z.0:n)`), inst(`?F.0:n1`, `suc:n1`), []api.Term{f}, false, api.OK},
		// errors
		{inst(), inst(), slices.Repeat([]api.Term{x}, 50), true, api.OK}, {inst(), inst(), slices.Repeat([]api.Term{x}, 51), false, api.ErrCount}, {inst(), inst(), slices.Repeat([]api.Term{tm(`zero:n`)}, 51), false, api.ErrCount},
		{inst(), inst(), []api.Term{x, tm(`$x:n`)}, false, api.ErrArgument}, {inst(`?x.0:n`, `no:n`), inst(), []api.Term{x, {}}, false, api.ErrArgument},
		{inst(`?x.0:n`, `no:n`), inst(), []api.Term{x}, false, api.ErrMissing}, {inst(), inst(`?x.0:n`, `no:n`), []api.Term{x}, false, api.ErrMissing}, {inst(), inst(`?x.0:n`, `no:n`), []api.Term{y}, true, api.OK},
		{inst(`?x.0:n`, `(?F.0:n1 zero:n)`), inst(), []api.Term{x}, false, pattern.ErrPattern},
		{inst(), api.Inst{Terms: []api.TermBind{{Name: "x", To: sum(1001)}}}, []api.Term{x}, false, api.ErrFuel},
		// the first failure decides
		{inst(`?x.0:n`, `zero:n`, `?y.0:n`, `no:n`), inst(), []api.Term{x, y}, false, api.OK}, {inst(`?x.0:n`, `zero:n`, `?y.0:n`, `no:n`), inst(), []api.Term{y, x}, false, api.ErrMissing},
	} {
		if got, e := pattern.Least(thy, c.general, c.special, c.vars); got != c.want || e != c.e {
			t.Error(i, got, e)
		}
	}
	// types, too
	v := tm(`?x.0:?a.0`)
	nat := api.Inst{Types: []api.TypeBind{{Name: "a", To: ty("nat")}}}
	if ok, e := pattern.Least(thy, api.Inst{}, nat, []api.Term{v}); !ok || e != api.OK {
		t.Error(ok, e)
	}
	if ok, e := pattern.Least(thy, nat, api.Inst{}, []api.Term{v}); ok || e != api.OK {
		t.Error(ok, e)
	}
	// a type that would be far too large
	wide := api.Type{Op: api.TVar, Name: "a"}
	for range 12 {
		wide = types.Fun(wide, wide)
	}
	huge := api.Inst{Types: []api.TypeBind{{Name: "a", To: wide}}}
	if _, e := pattern.Least(thy, huge, api.Inst{}, []api.Term{{Op: api.Var, Name: "x", Type: wide}}); e != api.ErrCount {
		t.Error(e)
	}
	if _, e := pattern.Least(thy, huge, api.Inst{}, []api.Term{{Op: api.Var, Type: wide}}); e != api.ErrForm {
		t.Error(e)
	}
}

func TestSolves(t *testing.T) {
	thy := world()
	one := func(name string, to api.Term) api.Inst { return api.Inst{Terms: []api.TermBind{{Name: name, To: to}}} }
	typed := func(to string, terms ...api.TermBind) api.Inst {
		return api.Inst{Types: []api.TypeBind{{Name: "a", To: ty(to)}}, Terms: terms}
	}
	for i, x := range []struct {
		i    api.Inst
		l    []pattern.Pair
		want bool
	}{
		{api.Inst{}, nil, true}, {api.Inst{}, pairs(`zero:n`, `zero:n`), true}, {api.Inst{}, pairs(`zero:n`, `$x:n`), false}, {one("x", tm(`zero:n`)), pairs(`?x.0:n`, `zero:n`), true}, {one("x", tm(`zero:n`)), pairs(`?x.1:n`, `zero:n`), false},
		// up to beta and eta; no patterns are wanted
		{api.Inst{}, pairs(`suc:n1`, `(\x:n . (suc:n1 #0))`), true}, {api.Inst{}, pairs(`((\x:n . #0) zero:n)`, `zero:n`), true}, {one("F", tm(`(\x:n . zero:n)`)), pairs(`(?F.0:n1 $k:n)`, `zero:n`), true},
		{api.Inst{}, []pattern.Pair{{A: sum(1000), B: sum(1000)}}, true}, {api.Inst{}, []pattern.Pair{{A: sum(1001), B: sum(1001)}}, false}, {api.Inst{}, []pattern.Pair{{A: tm(`zero:n`), B: sum(1001)}}, false},
		// what does not fit
		{one("x", tm(`$y:p`)), pairs(`?x.0:n`, `?x.0:n`), false}, {one("x", tm(`no:n`)), pairs(`?x.0:n`, `?x.0:n`), false}, {one("x", api.Term{Op: api.Bound}), pairs(`(\x:n . ?x.0:n)`, `(\x:n . ?x.0:n)`), false}, {one("z", api.Term{}), pairs(`?x.0:n`, `?x.0:n`), true},
		{typed("nat"), pairs(`?x.0:?a.0`, `?x.0:?a.0`), true}, {typed("nat"), pairs(`?x.0:?a.0{d}`, `?x.0:?a.0{d}`), false}, {typed("nat"), pairs(`?x.0:?a.0{c}`, `?x.0:?a.0{c}`), true}, {typed("set"), pairs(`?x.0:?a.0`, `?x.0:?a.0`), false},
		{typed("set"), pairs(`?x.0:n`, `?x.0:n`), true}, {typed("nat", api.TermBind{Name: "x", To: tm(`zero:n`)}), pairs(`?x.0:?a.0`, `zero:n`), true}, {typed("prop", api.TermBind{Name: "x", To: tm(`zero:n`)}), pairs(`?x.0:?a.0`, `zero:n`), false},
		// of two binds the first one counts
		{api.Inst{Terms: []api.TermBind{{Name: "x", To: tm(`zero:n`)}, {Name: "x", To: tm(`$y:p`)}}}, pairs(`?x.0:n`, `zero:n`), true},
		// terms that are none, or whose variables differ
		{api.Inst{}, []pattern.Pair{{}}, false}, {api.Inst{}, pairs(`no:n`, `no:n`), false}, {api.Inst{}, pairs(`((\y:p . zero:n) $x:p)`, `((\y:n . zero:n) $x:n)`), false}, {api.Inst{}, pairs(`$x:'a`, `$x:'a`, `$y:'a{c}`, `$y:'a{c}`), false},
		{one("x", tm(`$y:n`)), pairs(`((\y:p . ?x.0:n) $y:p)`, `?x.0:n`), false},
	} {
		if got := pattern.Solves(thy, x.i, x.l); got != x.want {
			t.Error(i, got)
		}
	}
	if pattern.Solves(api.Theory{Classes: []api.Class{{}}}, api.Inst{}, pairs(`zero:n`, `zero:n`)) {
		t.Error("a theory with an error")
	}
	// what would be far too large
	v := term.Apps(tm(`add:n2`), []api.Term{tm(`?x.0:n`), tm(`?x.0:n`)})
	for range 10 {
		v = term.Apps(tm(`add:n2`), []api.Term{v, v})
	}
	l := []pattern.Pair{{A: v, B: v}}
	if pattern.Solves(thy, one("x", filled(19999)), l) || !pattern.Solves(thy, one("x", tm(`zero:n`)), l) {
		t.Error("large")
	}
}

func TestCompose(t *testing.T) {
	bind := func(s string, to string) api.TermBind {
		v := tm(s)
		return api.TermBind{Name: v.Name, Index: v.Num, To: tm(to)}
	}
	tb := func(name string, index int, to string) api.TypeBind {
		return api.TypeBind{Name: name, Index: index, To: ty(to)}
	}
	a := api.Inst{Types: []api.TypeBind{tb("a", 1, "list(?b.0)"), tb("a", 0, "nat")}, Terms: []api.TermBind{bind(`?y.0:n`, `(suc:n1 ?x.0:n)`), bind(`?x.1:n`, `zero:n`)}}
	b := api.Inst{Types: []api.TypeBind{tb("a", 0, "prop"), tb("b", 0, "nat")}, Terms: []api.TermBind{bind(`?z.0:n`, `?z.1:n`), bind(`?x.0:n`, `?q.0:n`), bind(`?y.0:n`, `zero:n`)}}
	got, e := pattern.Compose(a, b)
	if e != api.OK || text(got) != short.Replace(`?a.1 := list(nat); ?a.0 := nat; ?b.0 := nat; ?y.0 := (suc:n1 ?q.0:n); ?x.1 := zero:n; ?z.0 := ?z.1:n; ?x.0 := ?q.0:n`) {
		t.Error(e, text(got))
	}
	if got, e := pattern.Compose(api.Inst{}, api.Inst{}); e != api.OK || text(got) != "" {
		t.Error(e)
	}
	for i, x := range []api.Inst{{Types: []api.TypeBind{tb("a", 0, "nat"), tb("b", 0, "nat"), tb("a", 0, "nat")}}, {Terms: []api.TermBind{bind(`?x.0:n`, `zero:n`), bind(`?x.0:n`, `zero:n`)}}} {
		if _, e := pattern.Compose(x, b); e != api.ErrDuplicate {
			t.Error(i, e)
		}
		if _, e := pattern.Compose(a, x); e != api.ErrDuplicate {
			t.Error(i, e)
		}
	}
	// a type variable and a variable of the same name are no two
	if _, e := pattern.Compose(api.Inst{Types: []api.TypeBind{tb("x", 0, "nat")}, Terms: []api.TermBind{bind(`?x.0:n`, `zero:n`)}}, b); e != api.OK {
		t.Error(e)
	}
	// it is new memory
	got, _ = pattern.Compose(a, b)
	got.Terms[0].To.Kids[0].Name, got.Types[0].To.Args[0].Name = "spoilt", "spoilt"
	got.Terms[2].To.Name = "spoilt"
	if text(b) != short.Replace(`?a.0 := prop; ?b.0 := nat; ?z.0 := ?z.1:n; ?x.0 := ?q.0:n; ?y.0 := zero:n`) || a.Terms[0].To.Kids[0].Name != "suc" || a.Types[0].To.Args[0].Name != "b" {
		t.Error("an argument was changed")
	}
}
