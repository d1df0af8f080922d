package unify_test

import (
	"fmt"
	"slices"
	"strings"
	"testing"

	"triforium/api"
	"triforium/pattern"
	"triforium/term"
	"triforium/theory"
	"triforium/types"
	"triforium/unify"
)

// short replaces short names of types: n is nat, n1 the type of functions from nat to nat, and so on.
var short = strings.NewReplacer(":n3", ":fun(nat, fun(nat, fun(nat, nat)))", ":n2", ":fun(nat, fun(nat, nat))", ":n1", ":fun(nat, nat)", ":nn", ":fun(fun(nat, nat), nat)", ":n", ":nat", ":p", ":prop")

func must[T any](x T, e api.Errno) T {
	if e != api.OK {
		panic("error " + e.Error())
	}
	return x
}

func tm(s string) api.Term { return must(term.Read(short.Replace(s))) }
func ty(s string) api.Type { return must(types.Read(s)) }

// world has the type nat and the constants c, d, s and a.
func world() api.Theory {
	return must(theory.Extend(theory.Pure(), "T", api.Theory{
		Classes: []api.Class{{Name: "e"}},
		Types:   []api.TypeDecl{{Name: "nat"}, {Name: "list", Arity: 1}},
		Arities: []api.Arity{{Type: "list", Class: "e", Sorts: [][]string{{"e"}}}},
		Consts: []api.ConstDecl{
			{Name: "c", Type: ty("nat")}, {Name: "d", Type: ty("nat")}, {Name: "s", Type: ty("fun(nat, nat)")}, {Name: "a", Type: ty("fun(nat, fun(nat, nat))")}, {Name: "nil", Type: ty("list(?a.0)")},
			{Name: "size", Type: ty("fun(?a.0, nat)")},
		},
	}))
}

func pairs(l ...string) []pattern.Pair {
	var r []pattern.Pair
	for i := 0; i+1 < len(l); i += 2 {
		r = append(r, pattern.Pair{A: tm(l[i]), B: tm(l[i+1])})
	}
	return r
}

// text returns the text of a unifier: binds, and behind a bar the pairs that are left.
func text(u unify.Unifier) string {
	var l []string
	name := func(s string, n int) string {
		return must(types.Text(api.Type{Op: api.TVar, Name: s, Index: n})) + " := "
	}
	for _, b := range u.Inst.Types {
		l = append(l, name(b.Name, b.Index)+must(types.Text(b.To)))
	}
	for _, b := range u.Inst.Terms {
		l = append(l, name(b.Name, b.Index)+must(term.Text(b.To)))
	}
	s := strings.Join(l, "; ")
	for _, p := range u.Flex {
		s += " | " + must(term.Text(p.A)) + " = " + must(term.Text(p.B))
	}
	return s
}

func TestFirst(t *testing.T) {
	thy := world()
	for i, x := range []struct {
		l     []string
		depth int
		want  []string
	}{
		// the examples of the chapter
		{[]string{`(?F.0:n1 c:n)`, `c:n`}, 5, []string{`?F.0 := (\x:n . c:n)`, `?F.0 := (\x:n . #0)`}},
		{[]string{`(?F.0:n1 (?G.0:n1 c:n))`, `(?G.0:n1 c:n)`}, 5, []string{` | (?F.0:n1 (?G.0:n1 c:n)) = (?G.0:n1 c:n)`}},
		// no pairs, and pairs without a choice
		{nil, 5, []string{``}}, {[]string{`c:n`, `c:n`}, 0, []string{``}}, {[]string{`c:n`, `d:n`}, 5, nil}, {[]string{`?x.0:n`, `(s:n1 c:n)`}, 0, []string{`?x.0 := (s:n1 c:n)`}}, {[]string{`?x.0:n`, `(s:n1 ?x.0:n)`}, 5, nil},
		{[]string{`?x.0:n`, `$y:p`}, 5, nil}, {[]string{`?F.0:n1`, `?F.0:n1`}, 0, []string{``}}, {[]string{`(?F.0:n1 c:n)`, `(?F.0:n1 c:n)`}, 5, []string{` | (?F.0:n1 c:n) = (?F.0:n1 c:n)`}},
		// with the depth 0 there is no choice
		{[]string{`(?F.0:n1 c:n)`, `c:n`}, 0, nil}, {[]string{`(?F.0:n1 c:n)`, `(s:n1 c:n)`}, 1, nil},
		{[]string{`(?F.0:n1 c:n)`, `(s:n1 c:n)`}, 2, []string{`?F.0 := (\x:n . (s:n1 c:n))`, `?F.0 := (\x:n . (s:n1 #0))`}},
		{[]string{`(s:n1 c:n)`, `(?F.0:n1 c:n)`}, 2, []string{`?F.0 := (\x:n . (s:n1 c:n))`, `?F.0 := (\x:n . (s:n1 #0))`}},
		{[]string{`((?F.0:n2 c:n) c:n)`, `c:n`}, 5, []string{`?F.0 := (\x:n . (\x:n . c:n))`, `?F.0 := (\x:n . (\x:n . #1))`, `?F.0 := (\x:n . (\x:n . #0))`}},
		// a head that is bound is not imitated, a fixed one is
		{[]string{`(\x:n . (?F.0:n1 (s:n1 #0)))`, `(\x:n . #0)`}, 5, nil}, {[]string{`(\x:n . ((?F.0:n2 #0) (s:n1 #0)))`, `(\x:n . #0)`}, 5, []string{`?F.0 := (\x:n . (\x:n . #1))`}}, {[]string{`(?F.0:n1 $y:n)`, `$y:n`}, 5, []string{`?F.0 := (\x:n . $y:n)`, `?F.0 := (\x:n . #0)`}},
		// projections to functions: with new variables as their arguments
		{[]string{`(?F.0:nn s:n1)`, `(s:n1 c:n)`}, 2, []string{`?F.0 := (\x:n1 . (s:n1 c:n))`, `?F.0 := (\x:n1 . (#0 c:n))`}}, {[]string{`(?F.0:n1 c:n)`, `?y.0:n`}, 5, []string{` | (?F.0:n1 c:n) = ?y.0:n`}},
		// what is simple is bound to no pattern
		{[]string{`?y.0:n`, `(s:n1 (?F.0:n1 c:n))`}, 1, []string{`?y.0 := (s:n1 ?H.1:n) | ?H.1:n = (?F.0:n1 c:n)`}}, {[]string{`(s:n1 ?y.0:n)`, `?y.0:n`}, 5, nil},
		// normal forms are taken; new variables have indices above those that were given
		{[]string{`((\x:n . (s:n1 #0)) ?x.4:n)`, `(s:n1 ?y.0:n)`}, 0, []string{`?x.4 := ?H.5:n; ?y.0 := ?H.5:n`}},
		// types: first of the pairs, then of constants, and for projections
		{[]string{`?x.0:?a.0`, `c:n`}, 0, []string{`?a.0 := nat; ?x.0 := c:n`}}, {[]string{`(size:fun(?a.0, nat) ?x.0:?a.0)`, `(size:fun(nat, nat) c:n)`}, 0, []string{`?a.0 := nat; ?x.0 := c:n`}},
		{[]string{`(?F.0:fun(?a.0, nat) ?x.0:?a.0)`, `c:n`}, 1, []string{`?F.0 := (\x:?a.0 . c:n)`, `?a.0 := nat; ?F.0 := (\x:n . #0); ?x.0 := c:n`}},
		{[]string{`(?F.0:fun(?a.0{e}, list(?b.3)) $x:?a.0{e})`, `nil:list(?b.3)`}, 1, []string{`?F.0 := (\x:?a.0{e} . nil:list(?b.3))`}},
		// a pair that is left, and one that binds its variable
		{[]string{`(?F.0:n1 c:n)`, `?y.0:n`, `?y.0:n`, `d:n`}, 3, []string{`?F.0 := (\x:n . d:n); ?y.0 := d:n`}}, {[]string{`(?F.0:n1 c:n)`, `d:n`, `?F.0:n1`, `(\x:n . #0)`}, 3, nil},
		{[]string{`(?F.0:n1 c:n)`, `c:n`, `(?F.0:n1 d:n)`, `d:n`}, 3, []string{`?F.0 := (\x:n . #0)`}}, {[]string{`(?F.0:n1 c:n)`, `(?G.0:n1 c:n)`, `(?G.0:n1 d:n)`, `c:n`}, 3, []string{`?F.0 := (\x:n . c:n); ?G.0 := (\x:n . c:n)`, `?F.0 := (\x:n . #0); ?G.0 := (\x:n . c:n)`}},
		// loose variables of pairs that are left
		{[]string{`(\x:n . (\f:n1 . (?F.0:n1 (#0 #1))))`, `(\x:n . (\f:n1 . (?G.0:n1 c:n)))`}, 3, []string{` | (\x:n . (\x:n1 . (?F.0:n1 (#0 #1)))) = (\x:n . (\x:n1 . (?G.0:n1 c:n)))`}},
	} {
		var got []string
		l, more, e := unify.First(thy, pairs(x.l...), x.depth, 100)
		for _, u := range l {
			got = append(got, text(u))
		}
		var want []string
		for _, s := range x.want {
			want = append(want, short.Replace(s))
		}
		if e != api.OK || more || !slices.Equal(got, want) {
			t.Errorf("%d: %v\n %s\n want\n %s", i, e, strings.Join(got, "\n "), strings.Join(want, "\n "))
		}
	}
}

func TestErrors(t *testing.T) {
	thy := world()
	p := pairs(`c:n`, `c:n`)
	for i, x := range []struct {
		l           []pattern.Pair
		depth, most int
		want        api.Errno
	}{
		{slices.Repeat(p, 50), 60, 1000, api.OK}, {slices.Repeat(p, 51), -1, -1, api.ErrCount}, {pairs(`c:n`, `q:n`), -1, -1, api.ErrMissing}, {pairs(`$x:'a`, `$x:'a{e}`), -1, -1, api.ErrSort}, {pairs(`?x.0:n`, `c:n`, `?x.0:p`, `$y:p`), -1, -1, api.ErrType},
		{[]pattern.Pair{{A: tm(`c:n`), B: sum(1000)}}, 0, 0, api.OK}, {[]pattern.Pair{{A: tm(`c:n`), B: sum(1001)}}, -1, 0, api.ErrFuel}, {p, -1, 0, api.ErrRange}, {p, 61, 0, api.ErrRange}, {p, 0, -1, api.ErrRange}, {p, 0, 1001, api.ErrRange}, {nil, 0, 1001, api.ErrRange},
		// no patterns are wanted
		{pairs(`(?F.0:n1 c:n)`, `c:n`), 0, 0, api.OK}, {pairs(`c:n`, `$y:p`), 0, 0, api.OK},
	} {
		l, more, e := unify.First(thy, x.l, x.depth, x.most)
		if e != x.want || e != api.OK && (len(l) > 0 || more) {
			t.Error(i, e)
		}
		_, _, ok, e := unify.Simplify(thy, x.l)
		want := x.want
		if want == api.ErrRange {
			want = api.OK
		}
		if e != want || e != api.OK && ok {
			t.Error(i, "Simplify", e)
		}
		if x.most >= 0 && x.most <= 1000 && x.want != api.OK {
			for range unify.All(thy, x.l, x.depth) {
				t.Error(i, "All")
			}
		}
	}
	// a normal form that is too large is not reached
	double := tm(`(\x:n . ((a:n2 #0) #0))`)
	x := tm(`c:n`)
	for range 15 {
		x = term.Apps(double, []api.Term{x})
	}
	if _, _, e := unify.First(thy, []pattern.Pair{{A: x, B: x}}, 0, 0); e != api.ErrFuel {
		t.Error(e)
	}
	if _, _, e := unify.First(api.Theory{Classes: []api.Class{{}}}, p, 0, 0); e == api.OK {
		t.Error(e)
	}
}

// sum returns a term with n redexes beside each other.
func sum(n int) api.Term {
	return balanced(slices.Repeat([]api.Term{tm(`((\x:n . #0) c:n)`)}, n))
}

func balanced(l []api.Term) api.Term {
	for len(l) > 1 {
		var next []api.Term
		for i := 0; i+1 < len(l); i += 2 {
			next = append(next, term.Apps(tm(`a:n2`), l[i:i+2]))
		}
		if len(l)%2 == 1 {
			next = append(next, l[len(l)-1])
		}
		l = next
	}
	return l[0]
}

// The first unifiers are the same, however many are asked for, also by a sequence that is stopped, and again.
func TestLazy(t *testing.T) {
	thy := world()
	l := pairs(`(?F.0:n1 c:n)`, `((a:n2 c:n) (s:n1 c:n))`, `(?G.0:n1 (?F.0:n1 d:n))`, `(?G.0:n1 (?F.0:n1 d:n))`)
	whole, more, e := unify.First(thy, l, 6, 1000)
	if e != api.OK || more || len(whole) != 4 {
		t.Fatal(e, len(whole))
	}
	all := unify.All(thy, l, 6)
	for n := range 6 {
		got, more, e := unify.First(thy, l, 6, n)
		if e != api.OK || more != (n < 4) || len(got) != min(n, 4) {
			t.Error(n, len(got), more)
		}
		k := 0
		for u := range all {
			if k == n {
				break
			}
			if text(u) != text(whole[k]) || k < len(got) && text(got[k]) != text(u) {
				t.Error(n, k)
			}
			k++
		}
	}
	// what is yielded can be changed, and so can what was given
	for u := range all {
		u.Inst.Terms[0].To.Kids[0].Op = 77
		if len(u.Flex) > 0 {
			u.Flex[0].A.Kids[0].Op = 77
		}
		break
	}
	l[0].B.Kids[0].Kids[0].Name = "spoilt"
	k := 0
	for u := range all {
		if text(u) != text(whole[k]) {
			t.Error("changed", k)
		}
		k++
	}
}

// An endless search ends behind 3000 candidates; a sequence that is left early makes only what is wanted.
func TestCandidates(t *testing.T) {
	thy := world()
	endless := pairs(`(?F.0:n1 (s:n1 (?F.0:n1 c:n)))`, `(s:n1 (?F.0:n1 (s:n1 c:n)))`)
	for u := range unify.All(thy, endless, 60) {
		if text(u) == "" {
			t.Error("nothing is bound")
		}
		break
	}
	got, more, e := unify.First(thy, endless, 60, 1000)
	if e != api.OK || more || len(got) == 0 {
		t.Error(e, more, len(got))
	}
	// ?F c .. c = c: an imitation and n projections
	wide := func(name string, n int) pattern.Pair {
		f := api.Term{Op: api.Var, Name: name, Type: ty("nat")}
		for range n {
			f.Type = types.Fun(ty("nat"), f.Type)
		}
		return pattern.Pair{A: term.Apps(f, slices.Repeat([]api.Term{tm(`c:n`)}, n)), B: tm(`c:n`)}
	}
	for n, want := range map[int]int{1: 2, 7: 8, 120: 121} {
		if got, more, e := unify.First(thy, []pattern.Pair{wide("F", n)}, 1, 1000); e != api.OK || more || len(got) != want {
			t.Error(n, len(got), more)
		}
	}
	// 41 candidates on each level: two levels are within the limit, three are not
	levels := []pattern.Pair{wide("F", 40), wide("G", 40), wide("K", 40)}
	for depth, want := range map[int]int{2: 41 * 41, 3: counted(41, 3000)} {
		n := 0
		for range unify.All(thy, levels[:depth], depth) {
			n++
		}
		if n != want {
			t.Error(depth, n, want)
		}
	}
}

// counted returns how many of the first candidates of three levels, with k on each one, are on the last one.
func counted(k, most int) int {
	made, last := 0, 0
	for range k {
		if made == most {
			return last
		}
		made++
		for range k {
			if made == most {
				return last
			}
			made++
			for range k {
				if made == most {
					return last
				}
				made++
				last++
			}
		}
	}
	return last
}

// More than 200 pairs at one time fail.
func TestPairs(t *testing.T) {
	thy := world()
	f := func(n int) pattern.Pair { // f c .. c with so many arguments
		v := api.Term{Op: api.Free, Name: fmt.Sprint("f", n), Type: ty("nat")}
		for range n {
			v.Type = types.Fun(ty("nat"), v.Type)
		}
		x := term.Apps(v, slices.Repeat([]api.Term{tm(`c:n`)}, n))
		return pattern.Pair{A: x, B: x}
	}
	for n, want := range map[int]int{199: 1, 200: 1, 201: 0} {
		if l, _, e := unify.First(thy, []pattern.Pair{f(n)}, 0, 10); e != api.OK || len(l) != want {
			t.Error(n, e, len(l))
		}
	}
	// with those that are left
	left := pairs(`(?F.0:n1 c:n)`, `(?F.0:n1 c:n)`, `(?G.0:n1 c:n)`, `(?G.0:n1 c:n)`)
	for n, want := range map[int]int{198: 1, 199: 0} {
		if l, _, e := unify.First(thy, append(slices.Clone(left), f(n)), 0, 10); e != api.OK || len(l) != want {
			t.Error(n, e, len(l))
		}
		if l, _, e := unify.First(thy, append([]pattern.Pair{f(n)}, left...), 0, 10); e != api.OK || len(l) != want {
			t.Error(n, e, len(l))
		}
	}
}

// What is too large is left out.
func TestLarge(t *testing.T) {
	thy := world()
	v := func(i int) api.Term { return api.Term{Op: api.Var, Name: "x", Num: i, Type: ty("nat")} }
	for n, want := range map[int]int{12: 1, 13: 0, 40: 0} {
		var l []pattern.Pair
		for i := range n {
			l = append(l, pattern.Pair{A: v(i), B: term.Apps(tm(`a:n2`), []api.Term{v(i + 1), v(i + 1)})})
		}
		got, _, e := unify.First(thy, l, 0, 10)
		_, _, ok, f := unify.Simplify(thy, l)
		if e != api.OK || f != api.OK || len(got) != want || ok != (want == 1) {
			t.Error(n, e, len(got), ok)
		}
	}
	// a pair that is left: its sides have n nodes, and two more behind a bind
	for n, want := range map[int]int{19998: 1, 19999: 0} {
		inner := term.Apps(tm(`?F.0:n1`), []api.Term{term.Apps(tm(`a:n2`), []api.Term{tm(`?y.0:n`), filled(n - 7)})})
		side := api.Term{Op: api.Abs, Name: "x", Type: ty("nat"), Kids: []api.Term{inner}}
		if m, _ := term.Size(side); m != n {
			t.Fatal(m)
		}
		l := append([]pattern.Pair{{A: side, B: side}}, pairs(`?y.0:n`, `(s:n1 c:n)`)...)
		if got, _, e := unify.First(thy, l, 0, 10); e != api.OK || len(got) != want {
			t.Error(n, e, len(got))
		}
		if got, _, e := unify.First(thy, l[:1], 0, 10); e != api.OK || len(got) != 1 {
			t.Error(n, e, len(got))
		}
	}
}

// filled returns a term with n nodes, not 2 or 4.
func filled(n int) api.Term {
	switch {
	case n == 1:
		return tm(`c:n`)
	case n == 3:
		return tm(`(s:n1 c:n)`)
	case n%2 == 0:
		return term.Apps(tm(`$g:nn`), []api.Term{{Op: api.Abs, Type: ty("nat"), Kids: []api.Term{filled(n - 3)}}})
	}
	left := (n - 3) / 2
	if left%2 == 0 {
		left--
	}
	return term.Apps(tm(`a:n2`), []api.Term{filled(left), filled(n - 3 - left)})
}

func TestSimplify(t *testing.T) {
	thy := world()
	for i, x := range []struct {
		l    []string
		want string
		ok   bool
	}{
		{nil, ``, true}, {[]string{`((a:n2 ?x.0:n) (?F.0:n1 c:n))`, `((a:n2 c:n) (s:n1 ?x.0:n))`}, `?x.0 := c:n | (?F.0:n1 c:n) = (s:n1 c:n)`, true}, {[]string{`c:n`, `d:n`}, ``, false}, {[]string{`?x.0:n`, `$y:p`}, ``, false},
		{[]string{`?x.0:?a.0`, `c:n`}, `?a.0 := nat; ?x.0 := c:n`, true}, {[]string{`(\x:n . (?F.0:n1 (s:n1 #0)))`, `(\x:n . #0)`}, ` | (\x:n . (?F.0:n1 (s:n1 #0))) = (\x:n . #0)`, true},
		{[]string{`(?F.0:n1 c:n)`, `d:n`, `?G.0:n`, `c:n`, `(?F.0:n1 d:n)`, `c:n`}, `?G.0 := c:n | (?F.0:n1 c:n) = d:n | (?F.0:n1 d:n) = c:n`, true},
	} {
		inst, left, ok, e := unify.Simplify(thy, pairs(x.l...))
		want := short.Replace(x.want)
		if got := text(unify.Unifier{Inst: inst, Flex: left}); e != api.OK || ok != x.ok || got != want {
			t.Error(i, e, ok, got, want)
		}
	}
}

func TestClose(t *testing.T) {
	thy := world()
	bind := func(s, to string) api.TermBind {
		v := tm(s)
		return api.TermBind{Name: v.Name, Index: v.Num, To: tm(to)}
	}
	for i, x := range []struct {
		u    unify.Unifier
		want string
		e    api.Errno
	}{
		{unify.Unifier{}, ``, api.OK}, {unify.Unifier{Inst: api.Inst{Terms: []api.TermBind{bind(`?x.0:n`, `?y.4:n`)}}}, `?x.0 := ?y.4:n`, api.OK},
		{unify.Unifier{Flex: pairs(`(?F.0:n1 c:n)`, `?y.3:n`)}, `?F.0 := (\x:n . ?H.4:n); ?y.3 := ?H.4:n`, api.OK},
		// each head once, a variable for each type of results; what is bound is changed by it
		{unify.Unifier{Inst: api.Inst{Terms: []api.TermBind{bind(`?x.0:n`, `(?F.0:n1 d:n)`)}}, Flex: pairs(`(?F.0:n1 c:n)`, `(?G.0:n1 d:n)`, `(\x:n . (?P.0:fun(nat, prop) #0))`, `(\x:n . ?Q.0:p)`, `?K.0:n2`, `?F.0:n1`)},
			`?x.0 := ((\x:n . ?H.1:n) d:n); ?F.0 := (\x:n . ?H.1:n); ?G.0 := (\x:n . ?H.1:n); ?P.0 := (\x:n . ?H.2:p); ?Q.0 := ?H.2:p; ?K.0 := (\x:n . (\x:n . ?H.1:n))`, api.OK},
		// a head is its name and index: at several types it is bound where it stands first, and the others make no variable
		{unify.Unifier{Flex: pairs(`?F.0:n`, `?F.0:n1`)}, `?F.0 := ?H.1:n`, api.OK}, {unify.Unifier{Flex: pairs(`(?F.0:n1 c:n)`, `?F.0:n`)}, `?F.0 := (\x:n . ?H.1:n)`, api.OK}, {unify.Unifier{Flex: pairs(`?F.0:n`, `?F.0:n`, `?F.0:n1`, `?F.0:n`)}, `?F.0 := ?H.1:n`, api.OK},
		{unify.Unifier{Flex: pairs(`?F.0:n`, `(\x:n . (?F.0:fun(nat, prop) #0))`, `?G.0:list(nat)`, `?F.0:p`)}, `?F.0 := ?H.1:n; ?G.0 := ?H.2:list(nat)`, api.OK}, {unify.Unifier{Flex: pairs(`?F.0:?a.0`, `?F.0:?a.0{e}`, `?G.0:?a.0{e}`, `?F.2:?a.0`)}, `?F.0 := ?H.3:?a.0; ?G.0 := ?H.4:?a.0{e}; ?F.2 := ?H.3:?a.0`, api.OK},
		{unify.Unifier{Flex: pairs(`?F.0:n`, `?F.1:n1`, `?F.1:n`, `?F.0:p`)}, `?F.0 := ?H.2:n; ?F.1 := (\x:n . ?H.2:n)`, api.OK}, {unify.Unifier{Flex: pairs(`?F.0:n`, `?F.0:fun(nat, ?a.6)`)}, `?F.0 := ?H.7:n`, api.OK},
		{unify.Unifier{Inst: api.Inst{Terms: []api.TermBind{bind(`?F.0:n`, `c:n`), bind(`?x.0:n`, `?G.0:n`)}}, Flex: pairs(`?F.0:n`, `?F.0:n1`, `?G.0:n`, `?G.0:p`)}, `?F.0 := c:n; ?x.0 := ?H.1:n; ?G.0 := ?H.1:n`, api.OK},
		{unify.Unifier{Flex: pairs(`?F.0:n`, `?F.0:n1`, `c:n`, `?F.0:n`)}, ``, api.ErrArgument}, {unify.Unifier{Inst: api.Inst{Terms: []api.TermBind{bind(`?F.0:n`, `c:n`), bind(`?F.0:n1`, `s:n1`)}}, Flex: pairs(`?F.0:n`, `?F.0:n1`)}, ``, api.ErrDuplicate},
		// the errors of terms first, those of Inst ahead of the others
		{unify.Unifier{Inst: api.Inst{Terms: []api.TermBind{bind(`?x.0:n`, `q:n`)}}, Flex: []pattern.Pair{{}}}, ``, api.ErrMissing}, {unify.Unifier{Flex: []pattern.Pair{{A: tm(`c:n`)}}}, ``, api.ErrForm},
		{unify.Unifier{Flex: pairs(`(?F.0:n1 c:n)`, `c:n`)}, ``, api.ErrArgument}, {unify.Unifier{Flex: pairs(`(\x:n . #0)`, `(\x:n . ?y.0:n)`)}, ``, api.ErrArgument}, {unify.Unifier{Flex: pairs(`((\x:n . #0) ?y.0:n)`, `?y.0:n`)}, ``, api.ErrArgument},
		{unify.Unifier{Inst: api.Inst{Terms: []api.TermBind{bind(`?x.0:n`, `c:n`), bind(`?x.0:n`, `c:n`)}}, Flex: pairs(`c:n`, `c:n`)}, ``, api.ErrArgument}, {unify.Unifier{Inst: api.Inst{Terms: []api.TermBind{bind(`?x.0:n`, `c:n`), bind(`?x.0:n`, `c:n`)}}}, ``, api.ErrDuplicate},
		{unify.Unifier{Inst: api.Inst{Types: []api.TypeBind{{Name: "a", To: ty("nat")}, {Name: "a", To: ty("nat")}}}}, ``, api.ErrDuplicate}, {unify.Unifier{Inst: api.Inst{Types: []api.TypeBind{{Name: "a", To: ty("none")}}}}, `?a.0 := none`, api.OK},
	} {
		inst, e := unify.Close(thy, x.u)
		want := short.Replace(x.want)
		if got := text(unify.Unifier{Inst: inst}); e != x.e || got != want {
			t.Error(i, e, got, want)
		}
	}
	if _, e := unify.Close(api.Theory{Classes: []api.Class{{}}}, unify.Unifier{Flex: pairs(`?x.0:n`, `?y.0:n`)}); e == api.OK {
		t.Error(e)
	}
}
