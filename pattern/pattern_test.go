package pattern_test

import (
	"slices"
	"strings"
	"testing"

	"triforium/api"
	"triforium/pattern"
	"triforium/term"
	"triforium/theory"
	"triforium/types"
)

// short replaces short names of types: n is nat, n1 the type of functions from nat to nat, and so on.
var short = strings.NewReplacer(":n3", ":fun(nat, fun(nat, fun(nat, nat)))", ":n2", ":fun(nat, fun(nat, nat))", ":n1", ":fun(nat, nat)", ":n", ":nat", ":p", ":prop")

// tm reads a term.
func tm(s string) api.Term {
	t, e := term.Read(short.Replace(s))
	if e != api.OK {
		panic(s + ": " + e.Error())
	}
	return t
}

func ty(s string) api.Type {
	t, e := types.Read(s)
	if e != api.OK {
		panic(s + ": " + e.Error())
	}
	return t
}

// world has the types nat and list, the classes c and d, of which nat and list(c) are of c, and the constants zero, suc, add, size (of any type), nil and mk (of the class c).
func world() api.Theory {
	thy, e := theory.Extend(theory.Pure(), "T", api.Theory{
		Classes: []api.Class{{Name: "c"}, {Name: "d"}},
		Types:   []api.TypeDecl{{Name: "nat"}, {Name: "list", Arity: 1}},
		Arities: []api.Arity{{Type: "nat", Class: "c"}, {Type: "list", Class: "c", Sorts: [][]string{{"c"}}}},
		Consts: []api.ConstDecl{
			{Name: "zero", Type: ty("nat")}, {Name: "suc", Type: ty("fun(nat, nat)")}, {Name: "add", Type: ty("fun(nat, fun(nat, nat))")},
			{Name: "size", Type: ty("fun(?a.0, nat)")}, {Name: "nil", Type: ty("list(?a.0)")}, {Name: "mk", Type: ty("fun(?a.0{c}, nat)")}, {Name: "pair", Type: ty("fun(?a.0, fun(?b.0, nat))")},
		},
	})
	if e != api.OK {
		panic(e)
	}
	return thy
}

// pairs reads pairs: one behind the other, both sides.
func pairs(l ...string) []pattern.Pair {
	var r []pattern.Pair
	for i := 0; i+1 < len(l); i += 2 {
		r = append(r, pattern.Pair{A: tm(l[i]), B: tm(l[i+1])})
	}
	return r
}

// text returns the text of an instantiation: types, then terms.
func text(i api.Inst) string {
	var l []string
	for _, b := range i.Types {
		s, _ := types.Text(api.Type{Op: api.TVar, Name: b.Name, Index: b.Index})
		u, _ := types.Text(b.To)
		l = append(l, s+" := "+u)
	}
	for _, b := range i.Terms {
		s, _ := types.Text(api.Type{Op: api.TVar, Name: b.Name, Index: b.Index})
		u, _ := term.Text(b.To)
		l = append(l, s+" := "+u)
	}
	return strings.Join(l, "; ")
}

func TestIs(t *testing.T) {
	for _, s := range []string{
		`zero:n`, `$x:n`, `?F.0:n`, `(\x:n . #0)`, `(\x:n . (?F.0:n1 #0))`, `(\x:n . (\y:n . ((?F.0:n2 #0) #1)))`, `(\x:n . (\y:n . ((?F.0:n2 #1) #0)))`,
		`((add:n2 ?F.0:n) (suc:n1 ?G.0:n))`, `(\f:n1 . (?F.0:fun(fun(nat, nat), nat) #0))`, `(\f:n1 . (#0 ?F.0:n))`, `(\x:n . ((add:n2 (?F.0:n1 #0)) #0))`, `($f:n1 (\x:n . #0))`,
	} {
		if !pattern.Is(tm(s)) {
			t.Error(s)
		}
	}
	for _, s := range []string{
		`((\x:n . #0) zero:n)`, `(\y:n . ((\x:n . #0) #0))`, `(suc:n1 ((\x:n . #0) zero:n))`, `((?F.0:n2 zero:n) zero:n)`, `(\x:n . ((?F.0:n2 #0) #0))`, `(\x:n . (?F.0:n1 (suc:n1 #0)))`,
		`(\x:n . (?F.0:n1 ?G.0:n))`, `(\f:n1 . (?F.0:fun(fun(nat, nat), nat) (\x:n . (#1 #0))))`, `(\x:n . (?F.0:n1 $x:n))`, `(\x:n . ((add:n2 #0) ((?F.0:n2 #0) #0)))`, `(((\x:n . (\y:n . #0)) ?F.0:n) ?G.0:n)`,
	} {
		if pattern.Is(tm(s)) {
			t.Error(s)
		}
	}
	// any terms: loose bound variables, wrong types, and what is no term
	b0, b1, v := api.Term{Op: api.Bound}, api.Term{Op: api.Bound, Num: 1}, api.Term{Op: api.Var, Name: "F"}
	app := func(f, a api.Term) api.Term { return api.Term{Op: api.App, Kids: []api.Term{f, a}} }
	for i, x := range []struct {
		t    api.Term
		want bool
	}{
		{b0, true}, {app(v, b0), true}, {app(app(v, b0), b1), true}, {app(app(v, b1), b1), false}, {app(app(v, b0), b0), false}, {app(v, v), false}, {app(v, api.Term{Op: api.Bound, Num: -7}), true},
		{app(v, app(b0, b1)), false}, {app(b0, app(v, b0)), true}, {api.Term{}, false}, {api.Term{Op: 7}, false}, {api.Term{Op: api.Abs}, false}, {api.Term{Op: api.App}, false}, {api.Term{Op: -1, Kids: []api.Term{b0}}, false},
		{api.Term{Op: api.App, Kids: []api.Term{b0}}, false}, {api.Term{Op: api.App, Kids: []api.Term{b0, b0, b0}}, false}, {api.Term{Op: api.Abs, Kids: []api.Term{b0}}, true}, {api.Term{Op: api.Abs, Kids: []api.Term{b0, b0}}, false},
		{api.Term{Op: api.Const, Kids: []api.Term{b0}}, false}, {api.Term{Op: api.Var, Kids: []api.Term{b0}}, false}, {api.Term{Op: api.Bound, Kids: []api.Term{b0}}, false}, {app(v, api.Term{Op: api.Bound, Kids: []api.Term{b0}}), false},
		{app(api.Term{Op: api.Abs, Kids: []api.Term{b0}}, b0), false}, {app(app(api.Term{Op: api.Abs, Kids: []api.Term{b0}}, b0), b0), false}, {app(b0, api.Term{}), false}, {app(api.Term{}, b0), false},
	} {
		if pattern.Is(x.t) != x.want {
			t.Error(i)
		}
	}
}

func TestUnify(t *testing.T) {
	thy := world()
	for i, x := range []struct {
		l    []string
		want string
	}{
		// the examples of the chapter
		{[]string{`(\x:n . (?F.0:n1 #0))`, `(\x:n . ((add:n2 #0) #0))`}, `?F.0 := (\x:n . ((add:n2 #0) #0))`},
		{[]string{`(\x:n . (\y:n . ((?F.0:n2 #1) #0)))`, `(\x:n . (\y:n . ((?F.0:n2 #0) #1)))`}, `?F.0 := (\x:n . (\x:n . ?H.1:n))`},
		// what is the same, and first-order terms
		{nil, ``}, {[]string{`zero:n`, `zero:n`}, ``}, {[]string{`?F.0:n`, `?F.0:n`}, ``}, {[]string{`?F.0:n`, `zero:n`}, `?F.0 := zero:n`}, {[]string{`zero:n`, `?F.3:n`}, `?F.3 := zero:n`},
		{[]string{`((add:n2 ?x.0:n) ?y.0:n)`, `((add:n2 ?y.0:n) (suc:n1 zero:n))`}, `?x.0 := (suc:n1 zero:n); ?y.0 := (suc:n1 zero:n)`},
		{[]string{`?x.0:n`, `(suc:n1 ?y.0:n)`, `?y.0:n`, `(suc:n1 ?z.0:n)`}, `?x.0 := (suc:n1 (suc:n1 ?z.0:n)); ?y.0 := (suc:n1 ?z.0:n)`},
		// rule 1: an abstraction and another term
		{[]string{`(\x:n . (suc:n1 #0))`, `suc:n1`}, ``}, {[]string{`suc:n1`, `(\x:n . (?F.0:n1 #0))`}, `?F.0 := (\x:n . (suc:n1 #0))`}, {[]string{`?F.0:n1`, `suc:n1`}, `?F.0 := suc:n1`},
		{[]string{`?F.0:n1`, `(\y:n . (suc:n1 #0))`}, `?F.0 := (\x:n . (suc:n1 #0))`}, {[]string{`?F.0:n2`, `(\y:n . (add:n2 #0))`}, `?F.0 := (\x:n . (add:n2 #0))`},
		// rule 2
		{[]string{`(\x:n . (\y:n . (\z:n . (((?F.0:n3 #2) #1) #0))))`, `(\x:n . (\y:n . (\z:n . (((?F.0:n3 #2) #0) #1))))`}, `?F.0 := (\x:n . (\x:n . (\x:n . (?H.1:n1 #2))))`},
		{[]string{`(\x:n . (\y:n . ((?F.0:n2 #1) #0)))`, `(\x:n . (?F.0:n2 #0))`}, ``},
		// rule 3: the arguments of both, in the order of the first one
		{[]string{`?F.0:n`, `?G.0:n`}, `?F.0 := ?H.1:n; ?G.0 := ?H.1:n`}, {[]string{`?F.0:n`, `?G.6:n`}, `?F.0 := ?H.7:n; ?G.6 := ?H.7:n`}, {[]string{`?F.0:n1`, `?G.0:n1`}, `?F.0 := ?H.1:n1; ?G.0 := ?H.1:n1`},
		{[]string{`(\x:n . (\y:n . ((?F.0:n2 #1) #0)))`, `(\x:n . (\y:n . ((?G.0:n2 #0) #1)))`}, `?F.0 := (\x:n . (\x:n . ((?H.1:n2 #1) #0))); ?G.0 := (\x:n . (\x:n . ((?H.1:n2 #0) #1)))`},
		{[]string{`(\x:n . (\y:n . (\z:n . ((?F.0:n2 #2) #1))))`, `(\x:n . (\y:n . (\z:n . ((?G.0:n2 #0) #1))))`}, `?F.0 := (\x:n . (\x:n . (?H.1:n1 #0))); ?G.0 := (\x:n . (\x:n . (?H.1:n1 #0)))`},
		{[]string{`(\x:n . (?F.0:n1 #0))`, `(\x:n . ?G.0:n)`}, `?F.0 := (\x:n . ?H.1:n); ?G.0 := ?H.1:n`},
		// rule 4: variables inside lose arguments, the first one from the left first
		{[]string{`(\x:n . (\y:n . (?F.0:n1 #1)))`, `(\x:n . (\y:n . (suc:n1 ((?G.0:n2 #1) #0))))`}, `?F.0 := (\x:n . (suc:n1 (?H.1:n1 #0))); ?G.0 := (\x:n . (\x:n . (?H.1:n1 #1)))`},
		{[]string{`(\x:n . (\y:n . (?F.0:n1 #1)))`, `(\x:n . (\y:n . ((add:n2 (suc:n1 (?G.0:n1 #0))) ((?K.0:n2 #0) #1))))`},
			`?F.0 := (\x:n . ((add:n2 (suc:n1 ?H.1:n)) (?H.2:n1 #0))); ?G.0 := (\x:n . ?H.1:n); ?K.0 := (\x:n . (\x:n . (?H.2:n1 #0)))`},
		{[]string{`(\x:n . (\y:n . (?F.0:n1 #1)))`, `(\x:n . (\y:n . ((add:n2 ((?G.0:n2 #1) #0)) ((?G.0:n2 #0) #1))))`}, `?F.0 := (\x:n . ((add:n2 ?H.2:n) ?H.2:n)); ?G.0 := (\x:n . (\x:n . ?H.2:n))`},
		{[]string{`(\x:n . (?F.0:n1 #0))`, `(\x:n . ($g:fun(fun(nat, nat), nat) (\z:n . ((?G.0:n2 #1) #0))))`}, `?F.0 := (\x:n . ($g:fun(fun(nat, nat), nat) (\z:n . ((?G.0:n2 #1) #0))))`},
		{[]string{`?F.0:n`, `($g:fun(fun(nat, nat), nat) (\z:n . (?G.0:n1 #0)))`}, `?F.0 := ($g:fun(fun(nat, nat), nat) (\z:n . (?G.0:n1 #0)))`},
		// rule 5: bound variables and fixed ones
		{[]string{`(\f:n1 . (#0 ?x.0:n))`, `(\f:n1 . (#0 zero:n))`}, `?x.0 := zero:n`}, {[]string{`($f:n1 ?x.0:n)`, `($f:n1 $y:n)`}, `?x.0 := $y:n`},
		// a bind is put into the earlier ones, and these are made normal
		{[]string{`?F.0:n`, `(suc:n1 ?G.0:n)`, `(\x:n . ?G.0:n)`, `(\x:n . (?K.0:n1 #0))`}, `?F.0 := (suc:n1 ?H.1:n); ?G.0 := ?H.1:n; ?K.0 := (\x:n . ?H.1:n)`},
		{[]string{`?F.0:n1`, `(\x:n . (suc:n1 (?G.0:n1 #0)))`, `?G.0:n1`, `(\x:n . ((add:n2 #0) #0))`}, `?F.0 := (\x:n . (suc:n1 ((add:n2 #0) #0))); ?G.0 := (\x:n . ((add:n2 #0) #0))`},
		// types first
		{[]string{`?x.0:?a.0`, `zero:n`}, `?a.0 := nat; ?x.0 := zero:n`}, {[]string{`(size:fun(?a.0, nat) ?x.0:?a.0)`, `(size:fun(nat, nat) zero:n)`}, `?a.0 := nat; ?x.0 := zero:n`},
		{[]string{`(size:fun(?a.0, nat) ?x.0:?a.0)`, `(size:fun(?b.0, nat) ?y.0:?b.0)`}, `?b.0 := ?a.0; ?x.0 := ?H.1:?a.0; ?y.0 := ?H.1:?a.0`},
		{[]string{`?x.0:?a.0{c}`, `nil:list(?b.0)`}, `?a.0 := list(?b.1{c}); ?b.0 := ?b.1{c}; ?x.0 := nil:list(?b.1{c})`},
		{[]string{`?x.0:?a.0{c}`, `?y.3:?b.2{d}`, `?z.0:n`, `?v.0:n`}, `?a.0 := ?b.4{c,d}; ?b.2 := ?b.4{c,d}; ?v.0 := ?H.6:n; ?x.0 := ?H.5:?b.4{c,d}; ?y.3 := ?H.5:?b.4{c,d}; ?z.0 := ?H.6:n`},
		{[]string{`?f.0:?a.0`, `(\x:n . ((pair:fun(?b.0, fun(nat, nat)) ?y.0:?b.0) #0))`, `?y.0:?b.0`, `suc:n1`}, `?a.0 := fun(nat, nat); ?b.0 := fun(nat, nat); ?f.0 := (\x:n . ((pair:fun(fun(nat, nat), fun(nat, nat)) suc:n1) #0)); ?y.0 := suc:n1`},
		// a type that becomes one of functions
		{[]string{`(size:fun(?a.0, nat) ?f.0:?a.0)`, `(size:fun(fun(nat, nat), nat) (\x:n . (?G.0:n1 #0)))`}, `?a.0 := fun(nat, nat); ?G.0 := (\x:n . (?H.1:n1 #0)); ?f.0 := (\x:n . (?H.1:n1 #0))`},
	} {
		got, e := pattern.Unify(thy, pairs(x.l...))
		if want := short.Replace(strings.ReplaceAll(x.want, ";", " ;")); e != api.OK || strings.ReplaceAll(text(got), ";", " ;") != want {
			t.Errorf("%d: %v %s\n want %s", i, e, text(got), want)
		}
		if e == api.OK && !pattern.Solves(thy, got, pairs(x.l...)) {
			t.Error(i, "does not solve")
		}
	}
}

func TestUnifyFails(t *testing.T) {
	thy := world()
	for i, l := range [][]string{
		{`(\x:n . (\y:n . (?F.0:n1 #1)))`, `(\x:n . (\y:n . (suc:n1 #0)))`}, // the example
		{`zero:n`, `(suc:n1 zero:n)`}, {`zero:n`, `suc:n1`}, {`zero:n`, `$zero:n`}, {`$x:n`, `$y:n`}, {`(\x:n . (\y:n . #0))`, `(\x:n . (\y:n . #1))`}, {`(\x:n . #0)`, `(\x:n . zero:n)`},
		{`?F.0:n`, `(suc:n1 ?F.0:n)`}, {`(suc:n1 ?F.0:n)`, `?F.0:n`}, {`(\x:n . (?F.0:n1 #0))`, `(\x:n . (suc:n1 (?F.0:n1 #0)))`}, {`?F.0:n`, `?G.0:n`, `?F.0:n`, `(suc:n1 ?G.0:n)`},
		{`(\x:n . ?F.0:n)`, `(\x:n . (suc:n1 #0))`}, {`(\x:n . ?F.0:n)`, `(\x:n . #0)`}, {`?F.0:n1`, `?x.0:p`}, {`?x.0:?a.0`, `?x.1:fun(?a.0, ?a.0)`}, {`?x.0:?a.0{d}`, `zero:n`},
		{`(size:fun(nat, nat) ?x.0:n)`, `(size:fun(prop, nat) ?y.0:p)`}, {`(pair:fun(?a.0, fun(nat, nat)) ?x.0:?a.0)`, `suc:n1`}, {`((add:n2 ?x.0:n) ?x.0:n)`, `((add:n2 zero:n) (suc:n1 zero:n))`},
		{`(\x:n . (\y:n . (?F.0:n1 #1)))`, `(\x:n . (\y:n . ((add:n2 (?G.0:n1 #0)) #0)))`}, {`suc:n1`, `(add:n2 zero:n)`},
		// types of all pairs are unified ahead of terms
		{`zero:n`, `(suc:n1 zero:n)`, `?x.0:n`, `?y.0:p`},
	} {
		if got, e := pattern.Unify(thy, pairs(l...)); e != api.ErrFail || text(got) != "" {
			t.Error(i, e, text(got))
		}
		slices.Reverse(l)
		if got, e := pattern.Unify(thy, pairs(l...)); e != api.ErrFail || text(got) != "" {
			t.Error(i, "turned", e, text(got))
		}
	}
}

// repeated returns a list of so many pairs.
func repeated(n int, p pattern.Pair) []pattern.Pair { return slices.Repeat([]pattern.Pair{p}, n) }

func TestUnifyErrors(t *testing.T) {
	thy, none := world(), api.Theory{}
	p := pairs(`zero:n`, `zero:n`)[0]
	for i, x := range []struct {
		thy  api.Theory
		l    []pattern.Pair
		want api.Errno
	}{
		{thy, repeated(50, p), api.OK}, {thy, repeated(51, p), api.ErrCount}, {none, repeated(51, p), api.ErrCount}, {none, nil, api.OK},
		{thy, pairs(`no:n`, `zero:q`), api.ErrMissing}, {thy, pairs(`zero:n`, `zero:p`), api.ErrType}, {thy, pairs(`zero:p`, `no:n`), api.ErrType},
		{thy, []pattern.Pair{{A: api.Term{Op: api.Bound}}}, term.ErrLoose}, {thy, []pattern.Pair{{A: p.A}}, api.ErrForm},
		// variables of all terms: sorts first
		{thy, pairs(`$x:n`, `zero:n`, `zero:n`, `(size:fun(prop, nat) $x:p)`), api.ErrType}, {thy, pairs(`?x.0:n`, `zero:n`, `?x.0:p`, `?y.0:p`), api.ErrType}, {thy, pairs(`?x.0:n`, `zero:n`, `?x.1:p`, `$x:p`), api.OK},
		{thy, pairs(`$x:n`, `$y:'a`, `$x:p`, `$z:'a{c}`), api.ErrSort}, {thy, pairs(`$y:?a.0`, `$z:?a.0{c}`), api.ErrSort}, {thy, pairs(`$x:n`, `$x:p`, `?x.0:n`, `no:n`), api.ErrMissing},
		// no patterns, behind all that
		{thy, pairs(`(?F.0:n1 zero:n)`, `zero:n`), pattern.ErrPattern}, {thy, pairs(`zero:n`, `((\x:n . #0) zero:n)`), pattern.ErrPattern}, {thy, pairs(`(?F.0:n1 zero:n)`, `$x:n`, `$x:p`, `$y:p`), api.ErrType},
		{thy, pairs(`(?F.0:n1 zero:n)`, `?x.0:p`), pattern.ErrPattern}, {thy, pairs(`zero:n`, `(suc:n1 zero:n)`, `(?F.0:n1 zero:n)`, `zero:n`), pattern.ErrPattern},
	} {
		if _, e := pattern.Unify(x.thy, x.l); e != x.want {
			t.Error(i, e, x.want)
		}
	}
}

// doubling returns pairs with each of which the size of what the first variable is bound to doubles.
func doubling(n int) []pattern.Pair {
	v := func(i int) api.Term { return api.Term{Op: api.Var, Name: "x", Num: i, Type: ty("nat")} }
	var l []pattern.Pair
	for i := range n {
		l = append(l, pattern.Pair{A: v(i), B: term.Apps(tm(`add:n2`), []api.Term{v(i + 1), v(i + 1)})})
	}
	return l
}

func TestUnifyLarge(t *testing.T) {
	thy := world()
	// the first one has 4*2^n - 3 nodes behind n pairs
	if i, e := pattern.Unify(thy, doubling(12)); e != api.OK || len(i.Terms) != 12 {
		t.Error(e)
	}
	if _, e := pattern.Unify(thy, doubling(13)); e != api.ErrLarge {
		t.Error(e)
	}
	if _, e := pattern.Unify(thy, doubling(50)); e != api.ErrLarge {
		t.Error(e)
	}
	// a failure ahead is one
	if _, e := pattern.Unify(thy, append(pairs(`zero:n`, `$x:n`), doubling(40)...)); e != api.ErrFail {
		t.Error(e)
	}
	// too deep: 300 levels and 300 levels
	deep := func(name string, n int, inner api.Term) pattern.Pair {
		for range n {
			inner = term.Apps(tm(`suc:n1`), []api.Term{inner})
		}
		return pattern.Pair{A: api.Term{Op: api.Var, Name: name, Type: ty("nat")}, B: inner}
	}
	if _, e := pattern.Unify(thy, []pattern.Pair{deep("x", 250, tm(`?y.0:n`)), deep("y", 249, tm(`zero:n`))}); e != api.OK {
		t.Error(e)
	}
	if _, e := pattern.Unify(thy, []pattern.Pair{deep("x", 250, tm(`?y.0:n`)), deep("y", 250, tm(`zero:n`))}); e != api.ErrLarge {
		t.Error(e)
	}
	// types that double with each pair are too large at the end only
	var l []pattern.Pair
	for i := range 20 {
		v := func(name string, t api.Type) api.Term { return api.Term{Op: api.Var, Name: name, Num: i, Type: t} }
		a, b := api.Type{Op: api.TVar, Name: "a", Index: i}, api.Type{Op: api.TVar, Name: "a", Index: i + 1}
		l = append(l, pattern.Pair{A: v("x", a), B: v("y", types.Fun(b, b))})
	}
	if _, e := pattern.Unify(thy, l[:10]); e != api.OK {
		t.Error(e)
	}
	if _, e := pattern.Unify(thy, l); e != api.ErrLarge {
		t.Error(e)
	}
	if _, e := pattern.Unify(thy, append(l, pairs(`zero:n`, `$x:n`)...)); e != api.ErrFail {
		t.Error(e)
	}
}
