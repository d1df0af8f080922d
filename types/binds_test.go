package types_test

import (
	"slices"
	"testing"

	"triforium/api"
	"triforium/sort"
	"triforium/types"
)

func sameBinds(a, b []api.TypeBind) bool {
	return slices.EqualFunc(a, b, func(x, y api.TypeBind) bool {
		return x.Name == y.Name && x.Index == y.Index && types.Equal(x.To, y.To)
	})
}

func bind(name string, index int, to api.Type) api.TypeBind {
	return api.TypeBind{Name: name, Index: index, To: to}
}

func TestMatch(t *testing.T) {
	thy, nat, a, b := signature(), con("nat"), tvar("a", 0), tvar("b", 0)
	old := []api.TypeBind{bind("b", 0, nat), bind("b", 0, types.Prop()), bind("x", 5, a)}
	for i, x := range []struct {
		pattern, t api.Type
		l, want    []api.TypeBind
		e          api.Errno
	}{
		{a, nat, nil, []api.TypeBind{bind("a", 0, nat)}, api.OK},
		{a, a, nil, []api.TypeBind{bind("a", 0, a)}, api.OK},
		{con("pair", b, a), con("pair", a, con("list", b)), nil, []api.TypeBind{bind("b", 0, a), bind("a", 0, con("list", b))}, api.OK},
		{con("pair", a, a), con("pair", nat, nat), nil, []api.TypeBind{bind("a", 0, nat)}, api.OK},
		{con("pair", a, tvar("a", 1)), con("pair", nat, a), nil, []api.TypeBind{bind("a", 0, nat), bind("a", 1, a)}, api.OK},
		{con("pair", a, b), con("pair", nat, nat), old, append(slices.Clone(old), bind("a", 0, nat)), api.OK},
		{nat, nat, old, old, api.OK}, {tfree("a", "c"), tfree("a", "c"), nil, nil, api.OK},
		{tvar("a", 0, "c"), con("list", nat), nil, []api.TypeBind{bind("a", 0, con("list", nat))}, api.OK},
		{tvar("a", 0, "c"), tfree("x", "e"), nil, []api.TypeBind{bind("a", 0, tfree("x", "e"))}, api.OK},
		{con("pair", a, a), con("pair", nat, types.Prop()), nil, nil, api.ErrFail},
		{b, types.Prop(), old, nil, api.ErrFail}, {nat, a, nil, nil, api.ErrFail}, {tfree("a"), tfree("b"), nil, nil, api.ErrFail}, {tfree("a"), tfree("a", "c"), nil, nil, api.ErrFail},
		{tfree("a"), tvar("a", 0), nil, nil, api.ErrFail}, {con("list", a), nat, nil, nil, api.ErrFail}, {types.Fun(a, b), con("pair", nat, nat), nil, nil, api.ErrFail},
		{tvar("a", 0, "e"), nat, nil, nil, api.ErrFail}, {tvar("a", 0, "c"), tvar("a", 0), nil, nil, api.ErrFail}, {tvar("a", 0, "c"), tfree("a", "d"), nil, nil, api.ErrFail},
		// the errors of arguments
		{con("set"), con("list"), nil, nil, api.ErrMissing}, {nat, con("list"), nil, nil, api.ErrCount}, {nat, con("list"), slices.Repeat(old, 101), nil, api.ErrCount},
		{a, con("set"), slices.Repeat(old, 101), nil, api.ErrMissing}, {a, nat, slices.Repeat(old, 101), nil, api.ErrCount}, {nat, nat, slices.Repeat(old, 100), slices.Repeat(old, 100), api.OK},
		{nat, a, []api.TypeBind{bind("a", 0, con("set"))}, nil, api.ErrMissing}, {a, nat, append(slices.Clone(old), bind("", -1, con("list"))), nil, api.ErrCount},
		{a, nat, []api.TypeBind{bind("1", -7, nat)}, []api.TypeBind{bind("1", -7, nat), bind("a", 0, nat)}, api.OK},
	} {
		l, e := types.Match(thy, x.pattern, x.t, x.l)
		if e != x.e || !sameBinds(l, x.want) {
			t.Error(i, l, e)
		}
		if e == api.OK && !types.Equal(types.Apply(l, x.pattern), x.t) {
			t.Error(i, "the pattern is not the type")
		}
	}
	thy.Classes[0].Name = ""
	if _, e := types.Match(thy, con("set"), nat, nil); e == api.OK || e == api.ErrMissing {
		t.Error(e)
	}
}

func TestUnify(t *testing.T) {
	thy, nat, a, b, c := signature(), con("nat"), tvar("a", 0), tvar("b", 0), tvar("c", 0)
	l := con("list", nat)
	for i, x := range []struct {
		a, b api.Type
		want []api.TypeBind
		e    api.Errno
	}{
		{nat, nat, nil, api.OK}, {a, a, nil, api.OK}, {con("pair", a, b), con("pair", a, b), nil, api.OK}, {tfree("x", "c"), tfree("x", "c"), nil, api.OK},
		{a, nat, []api.TypeBind{bind("a", 0, nat)}, api.OK}, {nat, a, []api.TypeBind{bind("a", 0, nat)}, api.OK},
		// of two variables the second one is bound, where sorts let it
		{a, b, []api.TypeBind{bind("b", 0, a)}, api.OK}, {b, a, []api.TypeBind{bind("a", 0, b)}, api.OK}, {a, tvar("a", 1), []api.TypeBind{bind("a", 1, a)}, api.OK},
		{tvar("a", 0, "c"), b, []api.TypeBind{bind("b", 0, tvar("a", 0, "c"))}, api.OK}, {a, tvar("b", 0, "c"), []api.TypeBind{bind("a", 0, tvar("b", 0, "c"))}, api.OK},
		{tvar("a", 0, "e"), tvar("b", 0, "c", "d"), []api.TypeBind{bind("b", 0, tvar("a", 0, "e"))}, api.OK},
		{tvar("a", 0, "c"), tvar("b", 0, "e"), []api.TypeBind{bind("a", 0, tvar("b", 0, "e"))}, api.OK},
		{tvar("a", 0, "c"), tvar("b", 0, "d"), []api.TypeBind{bind("a", 0, tvar("b", 1, "c", "d")), bind("b", 0, tvar("b", 1, "c", "d"))}, api.OK},
		{tvar("a", 3, "c"), tvar("b", 7, "d"), []api.TypeBind{bind("a", 3, tvar("b", 8, "c", "d")), bind("b", 7, tvar("b", 8, "c", "d"))}, api.OK},
		{types.Fun(a, a), types.Fun(b, l), []api.TypeBind{bind("a", 0, l), bind("b", 0, l)}, api.OK},
		{con("pair", a, con("list", b)), con("pair", con("list", c), a), []api.TypeBind{bind("a", 0, con("list", b)), bind("c", 0, b)}, api.OK},
		{con("pair", con("pair", a, b), c), con("pair", c, con("pair", nat, l)), []api.TypeBind{bind("a", 0, nat), bind("b", 0, l), bind("c", 0, con("pair", nat, l))}, api.OK},
		{con("pair", a, c), con("pair", b, con("list", b)), []api.TypeBind{bind("b", 0, a), bind("c", 0, con("list", a))}, api.OK},
		{con("pair", a, con("list", nat)), con("pair", b, b), []api.TypeBind{bind("a", 0, l), bind("b", 0, l)}, api.OK},
		// narrowing
		{tvar("a", 0, "c"), con("list", b), []api.TypeBind{bind("a", 0, con("list", tvar("b", 1, "c"))), bind("b", 0, tvar("b", 1, "c"))}, api.OK},
		{con("list", b), tvar("a", 4, "c"), []api.TypeBind{bind("a", 4, con("list", tvar("b", 5, "c"))), bind("b", 0, tvar("b", 5, "c"))}, api.OK},
		{tvar("a", 0, "c"), con("list", tvar("b", 0, "e")), []api.TypeBind{bind("a", 0, con("list", tvar("b", 0, "e")))}, api.OK},
		{tvar("a", 0, "c"), con("pair", b, c), []api.TypeBind{
			bind("a", 0, con("pair", tvar("b", 1, "c"), tvar("c", 2, "d"))), bind("b", 0, tvar("b", 1, "c")), bind("c", 0, tvar("c", 2, "d")),
		}, api.OK},
		{tvar("a", 0, "c"), con("pair", b, b), []api.TypeBind{
			bind("a", 0, con("pair", tvar("b", 2, "c", "d"), tvar("b", 2, "c", "d"))), bind("b", 0, tvar("b", 2, "c", "d")), bind("b", 1, tvar("b", 2, "c", "d")),
		}, api.OK},
		{tvar("a", 0, "c"), tfree("x", "e"), []api.TypeBind{bind("a", 0, tfree("x", "e"))}, api.OK}, {tvar("a", 0, "c"), tfree("x", "d"), nil, api.ErrSort},
		{tvar("a", 0, "d"), con("list", b), nil, api.ErrSort}, {tvar("a", 0, "c"), con("list", con("fun", b, b)), nil, api.ErrSort}, {tvar("a", 0, "e"), nat, nil, api.ErrSort},
		// what does not unify
		{nat, types.Prop(), nil, api.ErrFail}, {con("list", a), nat, nil, api.ErrFail}, {tfree("x"), tfree("y"), nil, api.ErrFail}, {tfree("x"), nat, nil, api.ErrFail},
		{a, con("list", a), nil, types.ErrOccurs}, {con("list", a), a, nil, types.ErrOccurs}, {con("pair", a, b), con("pair", con("list", b), con("list", a)), nil, types.ErrOccurs},
		{con("pair", a, con("list", a)), con("pair", b, b), nil, types.ErrOccurs}, {con("pair", a, a), con("pair", b, con("list", b)), nil, types.ErrOccurs}, {tvar("a", 0, "e"), con("list", tvar("a", 0, "e")), nil, types.ErrOccurs},
		// the first one from the left decides
		{con("pair", a, nat), con("pair", con("list", a), types.Prop()), nil, types.ErrOccurs}, {con("pair", nat, a), con("pair", types.Prop(), con("list", a)), nil, api.ErrFail},
		// the errors of arguments
		{con("set"), con("list"), nil, api.ErrMissing}, {con("list"), con("set"), nil, api.ErrCount}, {nat, con("list"), nil, api.ErrCount},
		{a, types.Fun(tvar("a", 0, "c"), a), nil, api.ErrSort}, {a, con("list", tvar("a", 0, "c")), nil, api.ErrSort}, {tfree("x"), tfree("x", "c"), nil, api.ErrSort},
		{con("pair", nat, tfree("x")), con("pair", types.Prop(), tfree("x", "c")), nil, api.ErrSort},
	} {
		if l, e := types.Unify(thy, x.a, x.b); e != x.e || !sameBinds(l, x.want) {
			t.Error(i, l, e)
		}
	}
	thy.Types[0].Arity = 11
	if _, e := types.Unify(thy, con("set"), nat); e != api.ErrRange {
		t.Error(e)
	}
}

// New variables have indices from a given one on, and above those of both types.
func TestUnifyIn(t *testing.T) {
	g, e := sort.Open(signature())
	if e != api.OK {
		t.Fatal(e)
	}
	for i, x := range []struct {
		a, b         api.Type
		next, behind int
		want         []api.TypeBind
		e            api.Errno
	}{
		{tvar("a", 3, "c"), tvar("b", 7, "d"), 20, 21, []api.TypeBind{bind("a", 3, tvar("b", 20, "c", "d")), bind("b", 7, tvar("b", 20, "c", "d"))}, api.OK},
		{tvar("a", 3, "c"), tvar("b", 7, "d"), 0, 9, []api.TypeBind{bind("a", 3, tvar("b", 8, "c", "d")), bind("b", 7, tvar("b", 8, "c", "d"))}, api.OK},
		{tvar("a", 0), con("nat"), 5, 5, []api.TypeBind{bind("a", 0, con("nat"))}, api.OK}, {con("nat"), con("nat"), 5, 5, nil, api.OK}, {con("nat"), types.Prop(), 5, 0, nil, api.ErrFail}, {con("set"), con("nat"), 5, 0, nil, api.ErrMissing},
		{con("nat"), con("list"), 5, 0, nil, api.ErrCount}, {tvar("a", 0), tvar("a", 0, "c"), 5, 0, nil, api.ErrSort}, {tvar("a", 0), con("list", tvar("a", 0)), 5, 0, nil, types.ErrOccurs},
	} {
		if l, behind, e := types.UnifyIn(g, x.a, x.b, x.next); e != x.e || behind != x.behind || !sameBinds(l, x.want) {
			t.Error(i, l, behind, e)
		}
	}
}

// left nests pairs to the left.
func left(l []api.Type) api.Type {
	t := l[0]
	for _, x := range l[1:] {
		t = con("pair", t, x)
	}
	return t
}

func TestUnifyLimits(t *testing.T) {
	thy, nat, a, b := signature(), con("nat"), tvar("a", 0), tvar("b", 0)
	large := con("list", bushy(1999, nat))
	if n, _ := types.Size(large); n != 2000 {
		t.Fatal(n)
	}
	if l, e := types.Unify(thy, a, large); e != api.OK || !sameBinds(l, []api.TypeBind{bind("a", 0, large)}) {
		t.Error("2000 nodes", e)
	}
	if _, e := types.Unify(thy, a, con("list", large)); e != api.ErrLarge {
		t.Error("2001 nodes", e)
	}
	// a bind grows when another one is applied to it
	if l, e := types.Unify(thy, con("pair", a, b), con("pair", con("pair", b, nat), bushy(1997, nat))); e != api.OK || len(l) != 2 {
		t.Error("1999 nodes", e)
	}
	if _, e := types.Unify(thy, con("pair", a, b), con("pair", con("pair", b, nat), bushy(1999, nat))); e != api.ErrLarge {
		t.Error("2001 nodes behind a bind", e)
	}
	// each variable is twice the next one
	var vars, twice []api.Type
	for i := range 60 {
		vars = append(vars, tvar("a", i))
		twice = append(twice, con("pair", tvar("a", i+1), tvar("a", i+1)))
	}
	if _, e := types.Unify(thy, left(vars), left(twice)); e != api.ErrLarge {
		t.Error("2^60", e)
	}
	// too deep, but not too large
	if _, e := types.Unify(thy, con("pair", a, b), con("pair", nested(300, b), nested(300, nat))); e != api.ErrDepth {
		t.Error("599 levels", e)
	}
	if _, e := types.Unify(thy, con("pair", a, b), con("pair", nested(251, b), nested(250, nat))); e != api.OK {
		t.Error("500 levels", e)
	}
	// types without variables may be larger
	huge := bushy(19999, nat)
	if l, e := types.Unify(thy, huge, huge); e != api.OK || len(l) != 0 {
		t.Error("equal", e)
	}
}

// What a function returned may be changed, and what it was given stays as it is.
func TestOwnMemory(t *testing.T) {
	thy, x := signature(), tvar("a", 0, "c", "d")
	u := con("pair", x, con("list", x))
	l := []api.TypeBind{bind("z", 0, con("list", x))}
	m, _ := types.Match(thy, tvar("b", 0), u, l)
	v, _ := types.Unify(thy, con("pair", tvar("b", 0), tvar("c", 0)), con("pair", u, tvar("b", 0)))
	h := types.Fun(u, u)
	s, r := types.Strip(h)
	f, g := types.Fun(u, u), types.Apply(l, con("pair", tvar("z", 0), tvar("z", 0)))
	all := slices.Concat([]api.Type{f.Args[0], f.Args[1], g.Args[0], g.Args[1], types.Apply(nil, u), types.Raise(u, 1), r, h}, s, types.Variables(u))
	for _, b := range slices.Concat(m, v) {
		all = append(all, b.To)
	}
	for i := range all {
		spoil(&all[i], i)
	}
	for i := range all {
		if !spoiled(&all[i], i) {
			t.Error(i, "shares memory")
		}
	}
	if !types.Equal(u, con("pair", x, con("list", x))) || !types.Equal(x, tvar("a", 0, "c", "d")) || !types.Equal(l[0].To, con("list", x)) {
		t.Error("an argument was changed")
	}
}

// spoil writes a mark into all nodes and lists of a type.
func spoil(t *api.Type, mark int) {
	t.Index = 1000 + mark
	for i := range t.Sort {
		t.Sort[i] = string(rune('A' + mark))
	}
	for i := range t.Args {
		spoil(&t.Args[i], mark)
	}
}

func spoiled(t *api.Type, mark int) bool {
	for _, c := range t.Sort {
		if c != string(rune('A'+mark)) {
			return false
		}
	}
	for i := range t.Args {
		if !spoiled(&t.Args[i], mark) {
			return false
		}
	}
	return t.Index == 1000+mark
}
