package types_test

import (
	"fmt"
	"math"
	"slices"
	"strings"
	"testing"

	"triforium/api"
	"triforium/sort"
	"triforium/types"
)

// signature has the classes c and d, e below both; nat is of c and d, list is of c, pair of c and d, and fun of none.
func signature() api.Theory {
	return api.Theory{
		Name:    "T",
		Classes: []api.Class{{Name: "c"}, {Name: "d"}, {Name: "e", Supers: []string{"c", "d"}}},
		Types:   []api.TypeDecl{{Name: "fun", Arity: 2}, {Name: "prop"}, {Name: "nat"}, {Name: "list", Arity: 1}, {Name: "pair", Arity: 2}},
		Arities: []api.Arity{
			{Type: "nat", Class: "c"}, {Type: "nat", Class: "d"},
			{Type: "list", Class: "c", Sorts: [][]string{{"c"}}},
			{Type: "pair", Class: "c", Sorts: [][]string{{"c"}, {"d"}}},
			{Type: "pair", Class: "d", Sorts: [][]string{{"d"}, nil}},
		},
	}
}

func tvar(name string, index int, sort ...string) api.Type {
	return api.Type{Op: api.TVar, Name: name, Index: index, Sort: sort}
}

func tfree(name string, sort ...string) api.Type {
	return api.Type{Op: api.TFree, Name: name, Sort: sort}
}

func con(name string, args ...api.Type) api.Type {
	return api.Type{Op: api.TCon, Name: name, Args: args}
}

// nested has a depth of n, and n nodes.
func nested(n int, inner api.Type) api.Type {
	for range n - 1 {
		inner = con("list", inner)
	}
	return inner
}

// balanced has 2^n leaves.
func balanced(n int, leaf api.Type) api.Type {
	if n == 0 {
		return leaf
	}
	return con("pair", balanced(n-1, leaf), balanced(n-1, leaf))
}

// wide has n nodes at the depths 1 and 2.
func wide(n int) api.Type { return con("w", slices.Repeat([]api.Type{con("nat")}, n-1)...) }

// bushy has n nodes, an odd number, for n up to some thousands, and a small depth.
func bushy(n int, leaf api.Type) api.Type {
	if n <= 2 {
		return leaf
	}
	left := (n - 1) / 2
	if left%2 == 0 {
		left--
	}
	return con("pair", bushy(left, leaf), bushy(n-1-left, leaf))
}

func names(n int) []string {
	var l []string
	for i := range n {
		l = append(l, fmt.Sprintf("c%02d", i))
	}
	return l
}

func TestFunAndStrip(t *testing.T) {
	nat, p := con("nat"), types.Prop()
	if p.Op != api.TCon || p.Name != "prop" || len(p.Args) != 0 {
		t.Error(p)
	}
	f := types.Fun(nat, p)
	if f.Op != api.TCon || f.Name != "fun" || len(f.Args) != 2 || f.Args[0].Name != "nat" || f.Args[1].Name != "prop" {
		t.Error(f)
	}
	g := types.Fun(f, types.Fun(tvar("a", 0), f))
	l, r := types.Strip(g)
	if len(l) != 3 || !types.Equal(l[0], f) || !types.Equal(l[1], tvar("a", 0)) || !types.Equal(l[2], nat) || !types.Equal(r, p) {
		t.Error(l, r)
	}
	for _, u := range []api.Type{nat, tfree("fun"), con("fun"), con("fun", nat), con("fun", nat, nat, nat), con("pair", nat, nat), {}, {Op: 9, Name: "fun", Args: []api.Type{nat, nat}}} {
		if l, r := types.Strip(u); len(l) != 0 || !types.Equal(r, u) {
			t.Error(u, l, r)
		}
	}
}

func TestSize(t *testing.T) {
	for i, x := range []struct {
		t            api.Type
		nodes, depth int
	}{
		{api.Type{}, 1, 1}, {con("nat"), 1, 1}, {types.Fun(con("nat"), nested(3, con("nat"))), 5, 4}, {nested(1000, con("nat")), 1000, 1000},
		{api.Type{Op: api.TFree, Args: []api.Type{con("a"), {Op: -3, Args: []api.Type{con("a")}}}}, 4, 3}, {balanced(15, con("nat")), 65535, 16}, {bushy(2001, con("nat")), 2001, 11},
	} {
		if n, d := types.Size(x.t); n != x.nodes || d != x.depth {
			t.Error(i, n, d)
		}
	}
}

func TestCheck(t *testing.T) {
	thy, args := signature(), []api.Type{con("nat")}
	long := strings.Repeat("a", 41)
	for i, x := range []struct {
		t api.Type
		e api.Errno
	}{
		{con("list", con("nat")), api.OK}, {tfree("a"), api.OK}, {tfree("a", "c", "d"), api.OK}, {tvar("a", 1000000, "e"), api.OK}, {types.Fun(tvar("a", 0), tfree("a")), api.OK},
		{api.Type{Op: api.TCon, Name: "nat", Sort: []string{}, Args: []api.Type{}}, api.OK},
		// the form
		{api.Type{}, api.ErrForm}, {api.Type{Op: 4, Name: "nat"}, api.ErrForm}, {api.Type{Op: -1, Name: "nat"}, api.ErrForm},
		{api.Type{Op: api.TCon, Name: "nat", Index: 1}, api.ErrForm}, {api.Type{Op: api.TCon, Name: "nat", Sort: []string{"c"}}, api.ErrForm},
		{api.Type{Op: api.TFree, Name: "a", Index: 1}, api.ErrForm}, {api.Type{Op: api.TFree, Name: "a", Args: args}, api.ErrForm},
		{api.Type{Op: api.TVar, Name: "a", Index: -1, Args: args}, api.ErrForm},
		{tvar("a", -1), api.ErrRange}, {tvar("a", 1000001), api.ErrRange}, {tvar("a", math.MinInt), api.ErrRange}, {tvar("a", math.MaxInt), api.ErrRange},
		{tvar("1", -1, "c", "c"), api.ErrRange}, {tvar("1", 0), api.ErrForm}, {tfree(""), api.ErrForm}, {tfree(long), api.ErrForm}, {con("a b"), api.ErrForm},
		{tfree("a", ""), api.ErrForm}, {tfree("a", "c", "1"), api.ErrForm}, {tfree("a", "d", "c"), api.ErrForm}, {tfree("a", "c", "c"), api.ErrForm},
		{tfree("a", names(21)...), api.ErrCount}, {tfree("a", names(20)...), api.ErrMissing}, {tfree("a", append(names(21), "c00")...), api.ErrForm},
		// a node ahead of its Args, and the first of these
		{con("1", tvar("a", -1)), api.ErrForm}, {con("list", tvar("a", -1), con("1")), api.ErrRange}, {con("list", con("1"), tvar("a", -1)), api.ErrForm},
		// the form of all nodes ahead of the theory
		{con("set", con("1")), api.ErrForm}, {con("list", con("set"), tvar("a", -1)), api.ErrRange},
		// the theory
		{con("set", con("nat", con("nat"))), api.ErrMissing}, {con("nat", con("nat")), api.ErrCount}, {con("list"), api.ErrCount}, {con("list", con("set"), con("set")), api.ErrCount},
		{con("pair", con("list"), con("set")), api.ErrCount}, {tfree("a", "k"), api.ErrMissing}, {tfree("a", "c", "e", "k"), api.ErrMissing}, {tvar("a", 0, "c", "e"), api.ErrSort},
		// one sort
		{types.Fun(tvar("a", 0, "c"), tvar("a", 0)), api.ErrSort}, {types.Fun(tfree("a", "c"), tfree("a", "d")), api.ErrSort}, {types.Fun(tfree("a", "c"), tfree("a", "c")), api.OK},
		{types.Fun(tvar("a", 0, "c"), tvar("a", 1)), api.OK}, {types.Fun(tfree("a", "c"), tvar("a", 0)), api.OK}, {types.Fun(tfree("a", "c"), tfree("b")), api.OK},
		{con("pair", types.Fun(tvar("a", 0, "c"), tvar("a", 0)), con("set")), api.ErrMissing},
	} {
		if e := types.Check(thy, x.t); e != x.e {
			t.Error(i, e, x.e, x.t)
		}
	}
	thy.Classes = append(thy.Classes, api.Class{Name: "c"})
	if e := types.Check(thy, api.Type{}); e != api.ErrDuplicate {
		t.Error(e)
	}
}

func TestCheckLimits(t *testing.T) {
	thy := signature()
	big := bushy(19999, con("nat"))
	for i, x := range []struct {
		t api.Type
		e api.Errno
	}{
		{nested(500, con("nat")), api.OK}, {nested(501, con("nat")), api.ErrDepth}, {nested(501, api.Type{}), api.ErrDepth}, {nested(20001, con("nat")), api.ErrCount},
		{con("list", big), api.OK}, {con("list", con("list", big)), api.ErrCount}, {wide(20000), api.ErrMissing}, {wide(20001), api.ErrCount},
	} {
		if e := types.Check(thy, x.t); e != x.e {
			t.Error(i, e, x.e)
		}
	}
	// memory that is shared makes a type of 2^40 nodes
	shared := con("nat")
	for range 40 {
		shared = con("pair", shared, shared)
	}
	if e := types.Check(thy, shared); e != api.ErrCount {
		t.Error(e)
	}
}

func TestOrder(t *testing.T) {
	nat := con("nat")
	// each one is ahead of those behind it
	l := []api.Type{
		{}, con("a"), con("a", con("a")), con("a", con("a"), con("a")), con("a", con("b")), con("b"), {Op: api.TCon, Name: "b", Sort: []string{"c"}}, {Op: api.TCon, Name: "b", Index: 1},
		tfree("A"), tfree("a"), tfree("a", "c"), tfree("a", "c", "d"), tfree("a", "d"), {Op: api.TFree, Name: "a", Sort: []string{"d"}, Args: []api.Type{nat}}, tfree("aa"),
		tvar("a", -1), tvar("a", 0), tvar("a", 0, "c"), tvar("a", 2), tvar("a", 10), tvar("b", 0), {Op: 4},
	}
	for i, a := range l {
		for j, b := range l {
			want := 0
			if i < j {
				want = -1
			} else if i > j {
				want = 1
			}
			if c := types.Compare(a, b); c != want || types.Equal(a, b) != (want == 0) {
				t.Error(i, j, c)
			}
		}
	}
	if !types.Equal(api.Type{Op: api.TCon, Name: "a", Sort: []string{}, Args: []api.Type{}}, con("a")) {
		t.Error("nil and empty")
	}
}

func TestVariables(t *testing.T) {
	odd := api.Type{Op: api.TFree, Name: "f", Args: []api.Type{tvar("x", 1)}}
	u := con("pair", con("pair", tvar("a", 1), tfree("a")), con("pair", tvar("a", 0, "c"), con("t", tvar("a", 1), tvar("a", 0), odd, tfree("a"))))
	want := []api.Type{tvar("a", 1), tfree("a"), tvar("a", 0, "c"), tvar("a", 0), tfree("f"), tvar("x", 1)}
	if l := types.Variables(u); !slices.EqualFunc(l, want, types.Equal) {
		t.Error(l)
	}
	if l := types.Variables(con("nat")); len(l) != 0 {
		t.Error(l)
	}
	for i, x := range []struct {
		t    api.Type
		want int
	}{
		{u, 1}, {con("nat"), -1}, {tfree("a"), -1}, {api.Type{Op: api.TFree, Index: 7}, -1}, {tvar("a", 0), 0}, {tvar("a", -5), -5}, {con("x", tvar("a", 3), tvar("b", 9), tvar("c", 2)), 9},
		{api.Type{Op: 7, Args: []api.Type{tvar("a", math.MaxInt)}}, math.MaxInt},
	} {
		if n := types.MaxIndex(x.t); n != x.want {
			t.Error(i, n)
		}
	}
}

func TestApplyAndRaise(t *testing.T) {
	nat, a := con("nat"), tvar("a", 0)
	l := []api.TypeBind{{Name: "a", To: con("list", a)}, {Name: "a", To: nat}, {Name: "b", Index: 1, To: nat}}
	for i, x := range []struct{ t, want api.Type }{
		{a, con("list", a)}, {tvar("a", 0, "c"), con("list", a)}, {tvar("a", 1), tvar("a", 1)}, {tvar("b", 1), nat}, {tvar("b", 0), tvar("b", 0)}, {tfree("a"), tfree("a")},
		{con("a", a, con("x", tvar("b", 1))), con("a", con("list", a), con("x", nat))}, {api.Type{}, api.Type{}},
		{api.Type{Op: api.TFree, Name: "a", Args: []api.Type{a}}, api.Type{Op: api.TFree, Name: "a", Args: []api.Type{con("list", a)}}},
		{api.Type{Op: api.TVar, Name: "z", Args: []api.Type{a}}, api.Type{Op: api.TVar, Name: "z", Args: []api.Type{con("list", a)}}},
		{api.Type{Op: api.TVar, Name: "b", Index: 1, Args: []api.Type{a}}, nat},
	} {
		if u := types.Apply(l, x.t); !types.Equal(u, x.want) {
			t.Error(i, u)
		}
	}
	if u := types.Apply(nil, con("pair", a, nat)); !types.Equal(u, con("pair", a, nat)) {
		t.Error(u)
	}
	for i, x := range []struct {
		t    api.Type
		n    int
		want api.Type
	}{
		{con("x", a, tfree("a"), tvar("b", 4, "c")), 3, con("x", tvar("a", 3), tfree("a"), tvar("b", 7, "c"))}, {a, -2, tvar("a", -2)}, {a, math.MaxInt, tvar("a", math.MaxInt)},
		{api.Type{Op: api.TCon, Index: 4, Args: []api.Type{{Op: api.TVar, Args: []api.Type{a}}}}, 1, api.Type{Op: api.TCon, Index: 4, Args: []api.Type{{Op: api.TVar, Index: 1, Args: []api.Type{tvar("a", 1)}}}}},
	} {
		if u := types.Raise(x.t, x.n); !types.Equal(u, x.want) {
			t.Error(i, u)
		}
	}
}

func TestHasSort(t *testing.T) {
	thy, nat := signature(), con("nat")
	for i, x := range []struct {
		t    api.Type
		s    []string
		want bool
	}{
		{nat, nil, true}, {nat, []string{"c", "d"}, true}, {nat, []string{"d", "c", "c"}, true}, {nat, []string{"e"}, false}, {con("list", nat), []string{"c"}, true}, {con("list", nat), []string{"d"}, false},
		{con("list", con("fun", nat, nat)), []string{"c"}, false}, {con("list", con("fun", nat, nat)), nil, true}, {con("pair", nat, con("list", nat)), []string{"c"}, false},
		{con("pair", nat, con("list", nat)), []string{"d"}, true}, {con("pair", nat, nat), []string{"c", "d"}, true}, {con("pair", nat, con("list", nat)), []string{"c", "d"}, false},
		{tfree("a", "e"), []string{"c", "d"}, true}, {tfree("a", "c"), []string{"c", "d"}, false}, {tvar("a", 0, "c"), []string{"e"}, false}, {tvar("a", 0), nil, true},
		{con("pair", tvar("a", 0, "e"), tvar("b", 0, "d")), []string{"c", "d"}, true}, {con("pair", tvar("a", 0, "c"), tvar("b", 0, "d")), []string{"c", "d"}, false},
		{nat, []string{"k"}, false}, {tfree("a", "k"), nil, false}, {con("set"), nil, false}, {con("list"), nil, false}, {api.Type{}, nil, false},
		{nat, slices.Repeat([]string{"c"}, 20), true}, {nat, slices.Repeat([]string{"c"}, 21), false}, {types.Fun(tvar("a", 0, "c"), tvar("a", 0)), nil, false},
	} {
		if types.HasSort(thy, x.t, x.s) != x.want {
			t.Error(i, x)
		}
		a, e := sort.Open(thy)
		if _, f := a.Normal(x.s); e == api.OK && f == api.OK && types.CheckIn(a, x.t) == api.OK && types.HasSortIn(a, &x.t, x.s) != x.want {
			t.Error(i, x, "in the algebra")
		}
	}
	thy.Arities[0].Class = "k"
	if types.HasSort(thy, tfree("a"), nil) {
		t.Error("a theory with an error")
	}
}

// Sorts of arguments may have more classes than a sort may have elsewhere.
func TestHasSortLimit(t *testing.T) {
	thy, all := api.Theory{Name: "W"}, names(42)
	for _, c := range all {
		thy.Classes = append(thy.Classes, api.Class{Name: c})
	}
	thy.Types = []api.TypeDecl{{Name: "t", Arity: 1}, {Name: "u"}, {Name: "v"}}
	thy.Arities = []api.Arity{{Type: "t", Class: "c00", Sorts: [][]string{all[2:22]}}, {Type: "t", Class: "c01", Sorts: [][]string{all[22:42]}}}
	for _, c := range all[2:] {
		thy.Arities = append(thy.Arities, api.Arity{Type: "u", Class: c})
	}
	for _, c := range all[3:] {
		thy.Arities = append(thy.Arities, api.Arity{Type: "v", Class: c})
	}
	s := []string{"c00", "c01"}
	if !types.HasSort(thy, con("t", con("u")), s) || types.HasSort(thy, con("t", con("v")), s) || !types.HasSort(thy, con("t", con("v")), s[1:]) {
		t.Error("HasSort")
	}
	// but narrowing does not make such sorts
	if _, e := types.Unify(thy, tvar("a", 0, s...), con("t", tvar("b", 0))); e != api.ErrSort {
		t.Error(e)
	}
}

func TestTexts(t *testing.T) {
	for s, x := range map[string]api.Type{
		"nat": con("nat"), "'a": tfree("a"), "?a.0": tvar("a", 0), "?a.b'.1000000": tvar("a.b'", 1000000), "'a{c}": tfree("a", "c"), "?a.7{c,d}": tvar("a", 7, "c", "d"),
		"fun(nat, 'a{c})": types.Fun(con("nat"), tfree("a", "c")), "t(u(v), w, x(y, z))": con("t", con("u", con("v")), con("w"), con("x", con("y"), con("z"))), "?a.9.10": tvar("a.9", 10),
	} {
		if r, e := types.Text(x); e != api.OK || r != s {
			t.Error(s, r, e)
		}
		if u, e := types.Read(s); e != api.OK || !types.Equal(u, x) {
			t.Error(s, u, e)
		}
	}
	for i, x := range []struct {
		t api.Type
		e api.Errno
	}{
		{api.Type{}, api.ErrForm}, {con("1"), api.ErrForm}, {tvar("a", -1), api.ErrRange}, {nested(501, con("a")), api.ErrDepth}, {nested(20001, con("a")), api.ErrCount},
		{tfree("a", names(21)...), api.ErrCount}, {nested(500, con("a")), api.OK}, {bushy(19999, tfree("aaaaaaaa")), api.OK},
	} {
		if s, e := types.Text(x.t); e != x.e || (s != "") != (e == api.OK) {
			t.Error(i, e)
		}
	}
}

func TestReadErrors(t *testing.T) {
	deep := func(n int) string { return strings.Repeat("a(", n-1) + "a" + strings.Repeat(")", n-1) }
	for s, want := range map[string]api.Errno{
		"": api.ErrText, " ": api.ErrText, " nat": api.ErrText, "nat ": api.ErrText, "fun(": api.ErrText, "fun(a": api.ErrText, "fun(a,b)": api.ErrText, "fun(a ,b)": api.ErrText, "fun(a,  b)": api.ErrText,
		"fun(a, b": api.ErrText, "fun(a, b))": api.ErrText, "fun(a, b)c": api.ErrText, "fun (a, b)": api.ErrText, "a)": api.ErrText, "a(b)(c)": api.ErrText, "a(b){c}": api.ErrText,
		"?a": api.ErrText, "?a.": api.ErrText, "?a.b": api.ErrText, "?a.00": api.ErrText, "?a.01": api.ErrText, "?a.12345678": api.ErrText, "?a.-1": api.ErrText, "?a.1x": api.ErrText, "?": api.ErrText,
		"'a{": api.ErrText, "'a{c": api.ErrText, "'a{c, d}": api.ErrText, "'a{c,d": api.ErrText, "'a{c}}": api.ErrText, "'a{c}{d}": api.ErrText, "a\x00": api.ErrText, "\xff": api.ErrText, "ä": api.ErrText,
		"fun(a, ": api.ErrText, "a-b": api.ErrText, deep(501): api.ErrText, deep(500): api.OK,
		"?a.9999999": api.ErrRange, "?a.1000001": api.ErrRange, "1": api.ErrForm, "a(1)": api.ErrForm, "'a{}": api.ErrForm, "'a{c,c}": api.ErrForm, "'a{d,c}": api.ErrForm, "'a{1}": api.ErrForm,
		"list()": api.ErrForm, "a(b, )": api.ErrForm, "nat{c}": api.ErrForm, "'a(b)": api.ErrForm, "?a.0(b)": api.ErrForm, strings.Repeat("a", 41): api.ErrForm, "?1.0": api.ErrForm, "?.0": api.ErrForm, "'": api.ErrForm, "?.": api.ErrText,
		"'a{" + strings.Join(names(21), ",") + "}": api.ErrCount, "'a{" + strings.Join(names(20), ",") + "}": api.OK,
		strings.Repeat("a", 40000): api.ErrForm, strings.Repeat("a", 40001): api.ErrLarge, strings.Repeat(" ", 40001): api.ErrLarge,
	} {
		if u, e := types.Read(s); e != want || e != api.OK && u.Op != 0 {
			t.Errorf("%.50q: %v, want %v", s, e, want)
		}
	}
}
