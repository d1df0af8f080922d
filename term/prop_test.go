package term_test

import (
	"slices"
	"strings"
	"testing"

	"triforium/api"
	"triforium/term"
	"triforium/types"
)

func TestBuild(t *testing.T) {
	a, b, x := free("A", prop()), free("B", prop()), free("x", nat())
	imp, protect := constant("imp", fun(prop(), prop(), prop())), constant("protect", fun(prop(), prop()))
	all := constant("all", fun(fun(nat(), prop()), prop()))
	same(t, "Imp", term.Imp(a, b), app(imp, a, b))
	same(t, "Protect", term.Protect(a), app(protect, a))
	p := free("p", fun(nat(), prop()))
	same(t, "All", term.All(x, app(p, x)), app(all, abs(nat(), app(p, bound(0)))))
	same(t, "All lifts", term.All(x, app(p, bound(0))), app(all, abs(nat(), app(p, bound(1)))))
	y := x
	y.Name = "y'"
	if r := term.All(y, a); r.Kids[1].Name != "y'" {
		t.Error("the name of the variable", r)
	}
	// loose variables are lifted under the abstraction, too
	same(t, "All of another term", term.All(app(a, a), bound(0)), app(constant("all", fun(fun(api.Type{}, prop()), prop())), api.Term{Op: api.Abs, Kids: []api.Term{bound(1)}}))
	for i, c := range []struct {
		a, b api.Term
		at   api.Type
		e    api.Errno
	}{
		{x, y, nat(), api.OK}, {a, b, prop(), api.OK}, {suc(), abs(nat(), x), fun(nat(), nat()), api.OK}, {constant("none", tfree("a", "k")), free("z", tfree("a", "k")), tfree("a", "k"), api.OK},
		{x, a, nat(), api.ErrType}, {free("z", tvar("a", 0)), free("z", tvar("a", 0, "c")), nat(), api.ErrType}, {bound(0), api.Term{}, nat(), term.ErrLoose}, {x, api.Term{}, nat(), api.ErrForm},
		{app(x, x), bound(0), nat(), api.ErrType}, {x, bound(0), nat(), term.ErrLoose},
	} {
		r, e := term.Eq(c.a, c.b)
		if e != c.e || e == api.OK && !term.Equal(r, app(constant("eq", fun(c.at, c.at, prop())), c.a, c.b)) || e != api.OK && r.Op != 0 {
			t.Error(i, r, e)
		}
	}
}

func TestTakeApart(t *testing.T) {
	a, b, x := free("A", prop()), free("B", prop()), free("x", nat())
	eq, _ := term.Eq(x, free("y", nat()))
	all := term.All(x, a)
	p, q, ok := term.IsImp(term.Imp(a, b))
	u, v, is := term.IsEq(eq)
	w, yes := term.IsAll(all)
	y, so := term.IsProtect(term.Protect(a))
	if !ok || !is || !yes || !so {
		t.Error(ok, is, yes, so)
	}
	same(t, "IsImp", p, a)
	same(t, "IsImp", q, b)
	same(t, "IsEq", u, x)
	same(t, "IsEq", v, free("y", nat()))
	same(t, "IsAll", w, all.Kids[1])
	same(t, "IsProtect", y, a)
	// of any type
	odd := func(name string, l ...api.Term) api.Term { return app(constant(name, nat()), l...) }
	if p, q, ok := term.IsImp(odd("imp", x, suc())); !ok || !term.Equal(p, x) || !term.Equal(q, suc()) {
		t.Error(p, q, ok)
	}
	if _, _, ok := term.IsEq(odd("eq", x, suc())); !ok {
		t.Error("IsEq")
	}
	if w, ok := term.IsAll(odd("all", abs(nat(), bound(4)))); !ok || !term.Equal(w, abs(nat(), bound(4))) {
		t.Error("IsAll")
	}
	if _, ok := term.IsProtect(odd("protect", x)); !ok {
		t.Error("IsProtect")
	}
	for i, r := range []api.Term{{}, a, odd("imp"), odd("imp", a), odd("imp", a, b, a), odd("eq", a), odd("eq", a, b, a), odd("all", x), odd("all"), odd("all", abs(nat(), a), a), odd("protect"), odd("protect", a, b),
		app(free("imp", nat()), a, b), app(free("all", nat()), abs(nat(), a)), app(free("protect", nat()), a), app(free("eq", nat()), a, b), abs(nat(), term.Imp(a, b)), odd("Imp", a, b),
		{Op: api.App, Kids: []api.Term{odd("imp", a), b, a}}, {Op: api.App, Kids: []api.Term{constant("protect", nat())}}, {Op: api.Abs, Kids: []api.Term{odd("imp", a), b}}} {
		p, q, ok := term.IsImp(r)
		u, v, is := term.IsEq(r)
		w, yes := term.IsAll(r)
		y, so := term.IsProtect(r)
		if ok || is || yes || so || p.Op+q.Op+u.Op+v.Op+w.Op+y.Op != 0 {
			t.Error(i, r)
		}
	}
}

func TestStripAndSpine(t *testing.T) {
	a, b, c := free("A", prop()), free("B", prop()), free("C", prop())
	l, r := term.Strip(term.Imp(term.Imp(a, b), term.Imp(b, term.Imp(a, c))))
	if !slices.EqualFunc(l, []api.Term{term.Imp(a, b), b, a}, term.Equal) || !term.Equal(r, c) {
		t.Error(l, r)
	}
	if l, r := term.Strip(term.Protect(term.Imp(a, b))); len(l) != 0 || !term.Equal(r, term.Protect(term.Imp(a, b))) {
		t.Error(l, r)
	}
	for i, x := range []struct {
		head api.Term
		args []api.Term
	}{
		{a, nil}, {suc(), []api.Term{a, app(b, c), c}}, {abs(nat(), app(a, b)), []api.Term{a}}, {api.Term{}, []api.Term{{}}}, {api.Term{Op: api.App, Kids: []api.Term{a}}, []api.Term{b}},
		{api.Term{Op: api.App, Kids: []api.Term{a, b, c}}, nil},
	} {
		u := term.Apps(x.head, x.args)
		same(t, "Apps", u, app(x.head, x.args...))
		if h, l := term.Spine(u); !term.Equal(h, x.head) || !slices.EqualFunc(l, x.args, term.Equal) {
			t.Error(i, h, l)
		}
	}
	same(t, "Apps of an App", term.Apps(app(suc(), a), []api.Term{b}), app(suc(), a, b))
}

func TestTexts(t *testing.T) {
	for s, x := range map[string]api.Term{
		"zero:nat": constant("zero", nat()), "$x:'a{c,d}": free("x", tfree("a", "c", "d")), "?x.3:list(?a.0)": schematic("x", 3, con("list", tvar("a", 0))), "?x.y.12:nat": schematic("x.y", 12, nat()),
		`(\x:nat . #0)`: abs(nat(), bound(0)), "($f:fun(nat, nat) $x:nat)": app(free("f", fun(nat(), nat())), free("x", nat())), `(\x:nat . (\x:fun(a, b) . (#1 #0)))`: abs(nat(), abs(fun(con("a"), con("b")), app(bound(1), bound(0)))),
		"(($a:b c:d) (e:f $g:h))": app(free("a", con("b")), constant("c", con("d")), app(constant("e", con("f")), free("g", con("h")))), `(\:nat . c:d)`: {Op: api.Abs, Type: nat(), Kids: []api.Term{constant("c", con("d"))}},
		"$x:a.b": free("x", con("a.b")), "?x.1000000:'a'": schematic("x", 1000000, tfree("a'")),
	} {
		if r, e := term.Text(x); e != api.OK || r != s {
			t.Error(s, r, e)
		}
		if u, e := term.Read(s); e != api.OK || !term.Equal(u, x) || u.Name != x.Name {
			t.Error(s, u, e)
		}
	}
	// the names of abstractions come back
	if u, e := term.Read(`(\first:nat . (\second:nat . #0))`); e != api.OK || u.Name != "first" || u.Kids[0].Name != "second" {
		t.Error(u, e)
	}
	for i, c := range []struct {
		t api.Term
		e api.Errno
	}{
		{api.Term{}, api.ErrForm}, {bound(0), term.ErrLoose}, {schematic("x", -1, nat()), api.ErrRange}, {free("x", con("1")), api.ErrForm}, {chain(501, bound(0)), api.ErrDepth}, {bushy(20001, bound(0)), api.ErrCount},
		{bushy(19999, free("x", nat())), api.ErrLarge}, {app(bushy(19997, free("x", nat())), bound(0)), term.ErrLoose}, {bushy(2001, free("x", nat())), api.OK},
		{free("x", con("a", slices.Repeat([]api.Type{con("bb")}, 10000)...)), api.ErrLarge},
	} {
		if s, e := term.Text(c.t); e != c.e || (s != "") != (e == api.OK) {
			t.Error(i, len(s), e)
		}
	}
	exact := free("x", con(strings.Repeat("a", 40), append(slices.Repeat([]api.Type{con(strings.Repeat("b", 38))}, 998), con(strings.Repeat("b", 35)))...))
	if s, e := term.Text(exact); e != api.OK || len(s) != 40000 {
		t.Error("40000 bytes", len(s), e)
	}
	exact.Name = "xy"
	if s, e := term.Text(exact); e != api.ErrLarge || s != "" {
		t.Error("40001 bytes", len(s), e)
	}
}

func TestReadErrors(t *testing.T) {
	deep := func(n int) string {
		return strings.Repeat("(f:fun(a, a) ", n-1) + "$x:a" + strings.Repeat(")", n-1)
	}
	deepAbs := func(n int) string {
		return strings.Repeat(`(\x:a . `, n-1) + "$x:a" + strings.Repeat(")", n-1)
	}
	deepType := func(n int) string { return "$x:" + strings.Repeat("a(", n-1) + "a" + strings.Repeat(")", n-1) }
	for s, want := range map[string]api.Errno{
		"": api.ErrText, " ": api.ErrText, "c": api.ErrText, "c:": api.ErrText, "$x": api.ErrText, "$x:nat ": api.ErrText, " $x:nat": api.ErrText, "$x: nat": api.ErrText, "$x :nat": api.ErrText, "$ x:nat": api.ErrText,
		"?x:nat": api.ErrText, "?x.:nat": api.ErrText, "?x.01:nat": api.ErrText, "?x.12345678:nat": api.ErrText, "?x.-1:nat": api.ErrText, "?x.1": api.ErrText,
		"#": api.ErrText, "#a": api.ErrText, "#-1": api.ErrText, "#00": api.ErrText, "#01": api.ErrText, "#12345678": api.ErrText, "#1:nat": api.ErrText, "# 0": api.ErrText,
		"(f:a": api.ErrText, "(f:a ": api.ErrText, "(f:a)": api.ErrText, "(f:a $x:b": api.ErrText, "(f:a  $x:b)": api.ErrText, "(f:a $x:b $y:c)": api.ErrText, "(f:a $x:b))": api.ErrText, "( f:a $x:b)": api.ErrText, "(f:a $x:b )": api.ErrText,
		`(\x:nat.#0)`: api.ErrText, `(\x:nat . #0`: api.ErrText, `(\x . #0)`: api.ErrText, `\x:nat . #0`: api.ErrText, `(\x:nat . #0) `: api.ErrText, `(\x:nat  . #0)`: api.ErrText, `( \x:nat . #0)`: api.ErrText,
		"$x:fun(a,b)": api.ErrText, "$x:fun(a": api.ErrText, "$x:'a{c": api.ErrText, "$x:?a": api.ErrText, "x\x00:nat": api.ErrText, "ä:nat": api.ErrText, deep(501): api.ErrText, deep(500): api.OK, deepAbs(501): api.ErrText, deepAbs(500): api.OK, deepType(501): api.ErrText, deepType(500): api.OK,
		"#0": term.ErrLoose, `(\x:nat . #1)`: term.ErrLoose, "#9999999": term.ErrLoose, "?x.9999999:nat": api.ErrRange, "$1:nat": api.ErrForm, "$:nat": api.ErrForm, ":nat": api.ErrForm, "?.1:nat": api.ErrForm,
		"$x:1": api.ErrForm, "$x:list()": api.ErrForm, "$x:'a{}": api.ErrForm, "$x:?a.9999999": api.ErrRange, `(\1:nat . #0)`: api.ErrForm, "(#0 $1:nat)": term.ErrLoose, "($1:nat #0)": api.ErrForm, "(c: $x:nat)": api.ErrForm,
		strings.Repeat("a", 39996) + ":nat": api.ErrForm, strings.Repeat("a", 39997) + ":nat": api.ErrLarge, strings.Repeat(" ", 40001): api.ErrLarge,
	} {
		if u, e := term.Read(s); e != want || e != api.OK && u.Op != 0 {
			t.Errorf("%.50q: %v, want %v", s, e, want)
		}
	}
}

// What a function returned may be changed, and what it was given stays as it is.
func TestOwnMemory(t *testing.T) {
	x := free("x", tvar("a", 0, "c"))
	u := app(abs(tvar("a", 0, "c"), app(free("f", fun(tvar("a", 0, "c"), prop())), bound(0))), x)
	eq, _ := term.Eq(u, u)
	n, _ := term.Norm(term.Imp(u, u), 9)
	m, _ := term.Norm(x, 0)
	b, _ := term.Beta(app(abs(nat(), app(bound(0), bound(0))), u))
	p, q, _ := term.IsImp(app(constant("imp", nat()), u, u))
	v, w, _ := term.IsEq(app(constant("eq", nat()), u, u))
	y, _ := term.IsProtect(app(constant("protect", nat()), u))
	z, _ := term.IsAll(app(constant("all", nat()), u.Kids[0]))
	o := term.Imp(u, term.Imp(u, u))
	l, r := term.Strip(o)
	h, k := term.Spine(app(u, u, u))
	i := api.Inst{Terms: []api.TermBind{{Name: "v", To: u}}, Types: []api.TypeBind{{Name: "t", To: tvar("a", 0, "c")}}}
	g := term.Apply(i, app(schematic("v", 0, nat()), schematic("v", 0, nat()), free("y", con("list", tvar("t", 0), tvar("t", 0)))))
	all := slices.Concat([]api.Term{o, eq, n, m, b, p, q, v, w, y, z, r, h, g, term.Imp(u, u), term.All(x, u), term.Protect(u), term.Apps(u, []api.Term{u, u}), term.Bind(x, u), term.Put(app(bound(0), bound(0)), u),
		term.Lift(u, 0), term.Lift(u, 1), term.Eta(u), term.Raise(u, 0), term.Apply(api.Inst{}, u)}, l, k, term.Frees(u), term.Vars(app(schematic("x", 0, x.Type), u)))
	var kinds []api.Type
	for _, t := range all {
		kinds = append(kinds, nodeTypes(&t)...)
	}
	kinds = append(kinds, term.TypeVariables(u)...)
	c, _ := term.TypeOf(x)
	d, _ := term.TypeOf(abs(x.Type, bound(0)))
	thy := signature()
	e, _ := term.Check(thy, x)
	f, _ := term.Check(thy, thy0(thy))
	kinds = append(kinds, c, d, e, f, thy.Consts[0].Type)
	for i := range all {
		mark(&all[i], i+1)
	}
	for i := range all {
		if !marked(&all[i], i+1) {
			t.Error(i, "shares nodes")
		}
	}
	for i := range kinds {
		markType(&kinds[i], i+1)
	}
	for i := range kinds {
		if !markedType(&kinds[i], i+1) {
			t.Error(i, "shares types")
		}
	}
	same(t, "the argument", u, app(abs(tvar("a", 0, "c"), app(free("f", fun(tvar("a", 0, "c"), prop())), bound(0))), free("x", tvar("a", 0, "c"))))
}

// thy0 returns the first constant of a theory, with the memory of its type.
func thy0(thy api.Theory) api.Term { return constant(thy.Consts[0].Name, thy.Consts[0].Type) }

// nodeTypes returns the types of all nodes, with their memory.
func nodeTypes(t *api.Term) []api.Type {
	l := []api.Type{t.Type}
	for i := range t.Kids {
		l = append(l, nodeTypes(&t.Kids[i])...)
	}
	return l
}

func mark(t *api.Term, n int) {
	t.Num = n
	for i := range t.Kids {
		mark(&t.Kids[i], n)
	}
}

func marked(t *api.Term, n int) bool {
	return t.Num == n && !slices.ContainsFunc(t.Kids, func(k api.Term) bool { return !marked(&k, n) })
}

func markType(t *api.Type, n int) {
	t.Index = n
	for i := range t.Sort {
		t.Sort[i] = strings.Repeat("s", n)
	}
	for i := range t.Args {
		markType(&t.Args[i], n)
	}
}

func markedType(t *api.Type, n int) bool {
	return t.Index == n && !slices.ContainsFunc(t.Sort, func(s string) bool { return len(s) != n }) && !slices.ContainsFunc(t.Args, func(a api.Type) bool { return !markedType(&a, n) })
}

func TestExample(t *testing.T) {
	x, e := term.Read(`(\x:nat . (f:fun(nat, nat) #0))`)
	u, f := term.TypeOf(x)
	s, _ := term.Text(term.Eta(x))
	if e != api.OK || f != api.OK || !types.Equal(u, fun(nat(), nat())) || s != "f:fun(nat, nat)" {
		t.Error(e, f, u, s)
	}
}
