package sort_test

import (
	"fmt"
	"math"
	"slices"
	"strings"
	"testing"

	"triforium/api"
	"triforium/sort"
)

// orders has the classes ord, linorder below it, c, and dense below c and linorder; nat, list and pair have arities.
func orders() api.Theory {
	return api.Theory{
		Name: "T",
		Classes: []api.Class{
			{Name: "ord"}, {Name: "linorder", Supers: []string{"ord"}}, {Name: "c"}, {Name: "dense", Supers: []string{"c", "linorder"}},
		},
		Types: []api.TypeDecl{{Name: "fun", Arity: 2}, {Name: "prop"}, {Name: "list", Arity: 1}, {Name: "pair", Arity: 2}, {Name: "nat"}},
		Arities: []api.Arity{
			{Type: "list", Class: "ord", Sorts: [][]string{{"ord"}}},
			{Type: "list", Class: "linorder", Sorts: [][]string{{"linorder"}}},
			{Type: "nat", Class: "ord"},
			{Type: "nat", Class: "linorder"},
			{Type: "pair", Class: "ord", Sorts: [][]string{{"ord"}, nil}},
			{Type: "pair", Class: "c", Sorts: [][]string{{"c"}, {"c", "linorder"}}},
		},
	}
}

// numbered returns n names.
func numbered(prefix string, n int) []string {
	var l []string
	for i := range n {
		l = append(l, fmt.Sprintf("%s%03d", prefix, i))
	}
	return l
}

// flat has n classes, none below another one.
func flat(n int) api.Theory {
	t := api.Theory{Name: "F"}
	for _, c := range numbered("c", n) {
		t.Classes = append(t.Classes, api.Class{Name: c})
	}
	return t
}

func TestIsName(t *testing.T) {
	for s, want := range map[string]bool{
		"a": true, "z": true, "A": true, "Z": true, "aAzZ": true, "_": true, "__": true, "a0'_.": true, "x.y": true, "": false, "0": false, "'": false, ".a": false, "a-": false, "a b": false,
		"ä": false, "aä": false, "a\x00": false, "a\xff": false, "@": false, "[": false, "`": false, "{": false, "a/": false, "a:": false, "a9": true, "a(": false,
		strings.Repeat("_", 40): true, strings.Repeat("_", 41): false,
	} {
		if sort.IsName(s) != want {
			t.Errorf("%q: %v", s, !want)
		}
	}
}

// fault is a change of a theory and the error that it makes.
type fault struct {
	name   string
	change func(*api.Theory)
	e      api.Errno
}

func checkFaults(t *testing.T, l []fault) {
	t.Helper()
	for _, f := range l {
		x := orders()
		f.change(&x)
		if e := sort.Check(x); e != f.e {
			t.Errorf("%s: %v, want %v", f.name, e, f.e)
		}
	}
}

func addClass(name string, supers ...string) func(*api.Theory) {
	return func(t *api.Theory) { t.Classes = append(t.Classes, api.Class{Name: name, Supers: supers}) }
}

func TestCheckClasses(t *testing.T) {
	checkFaults(t, []fault{
		{"good", func(*api.Theory) {}, api.OK},
		{"nothing", func(t *api.Theory) { *t = api.Theory{} }, api.OK},
		{"theory's name plays no part", func(t *api.Theory) { t.Name = "1" }, api.OK},
		{"no name", addClass(""), sort.ErrName},
		{"long name", addClass(strings.Repeat("a", 41)), sort.ErrName},
		{"twice", addClass("ord"), api.ErrDuplicate},
		{"twice, and 21 supers", addClass("ord", numbered("c", 21)...), api.ErrDuplicate},
		{"no name, and 21 supers", addClass("1", numbered("c", 21)...), sort.ErrName},
		{"21 supers that are missing", addClass("d", numbered("c", 21)...), api.ErrCount},
		{"20 supers that are missing", addClass("d", numbered("c", 20)...), api.ErrMissing},
		{"missing super", addClass("d", "e"), api.ErrMissing},
		{"itself", addClass("d", "d"), api.ErrMissing},
		{"super behind it", func(t *api.Theory) { addClass("d", "e")(t); addClass("e")(t) }, api.ErrMissing},
		{"supers not ascending", addClass("d", "ord", "c"), api.ErrOrder},
		{"supers twice", addClass("d", "c", "c"), api.ErrOrder},
		{"order ahead of missing", addClass("d", "ord", "c", "x"), api.ErrOrder},
		{"missing ahead of order", addClass("d", "x", "c"), api.ErrMissing},
		{"super below another super", addClass("d", "linorder", "ord"), api.OK},
		{"first class decides", func(t *api.Theory) { addClass("d", "x")(t); addClass("1")(t) }, api.ErrMissing},
		{"classes ahead of types", func(t *api.Theory) { addClass("d", "x")(t); t.Types[0].Arity = -1 }, api.ErrMissing},
	})
	if e := sort.Check(flat(300)); e != api.OK {
		t.Error("300 classes", e)
	}
	many := flat(301)
	many.Classes[0].Name = "1"
	if e := sort.Check(many); e != api.ErrCount {
		t.Error("301 classes", e)
	}
	deep := flat(20)
	deep.Classes = append(deep.Classes, api.Class{Name: "d", Supers: numbered("c", 20)})
	if e := sort.Check(deep); e != api.OK {
		t.Error("20 supers", e)
	}
}

func addType(name string, arity int) func(*api.Theory) {
	return func(t *api.Theory) { t.Types = append(t.Types, api.TypeDecl{Name: name, Arity: arity}) }
}

func TestCheckTypes(t *testing.T) {
	checkFaults(t, []fault{
		{"10 arguments", addType("t", 10), api.OK},
		{"11 arguments", addType("t", 11), api.ErrRange},
		{"-1 arguments", addType("t", -1), api.ErrRange},
		{"least int", addType("t", math.MinInt), api.ErrRange},
		{"greatest int", addType("t", math.MaxInt), api.ErrRange},
		{"class of the same name", addType("ord", 0), api.OK},
		{"no name", addType("", 11), sort.ErrName},
		{"twice", addType("nat", 11), api.ErrDuplicate},
		{"types ahead of arities", func(t *api.Theory) { addType("nat", 0)(t); t.Arities[0].Class = "x" }, api.ErrDuplicate},
		{"301 types", func(t *api.Theory) {
			for _, n := range numbered("t", 301-len(t.Types)) {
				addType(n, 11)(t)
			}
		}, api.ErrCount},
		{"300 types", func(t *api.Theory) {
			for _, n := range numbered("t", 300-len(t.Types)) {
				addType(n, 0)(t)
			}
		}, api.OK},
	})
}

func addArity(name, class string, sorts ...[]string) func(*api.Theory) {
	return func(t *api.Theory) {
		t.Arities = append(t.Arities, api.Arity{Type: name, Class: class, Sorts: sorts})
	}
}

func TestCheckArities(t *testing.T) {
	checkFaults(t, []fault{
		{"another one", addArity("fun", "ord", nil, nil), api.OK},
		{"no such type", addArity("set", "ord"), api.ErrMissing},
		{"no such class", addArity("nat", "x"), api.ErrMissing},
		{"twice", addArity("list", "ord", []string{"ord"}), api.ErrDuplicate},
		{"twice, and no sorts", addArity("list", "ord"), api.ErrDuplicate},
		{"too few sorts", addArity("list", "c"), api.ErrCount},
		{"too many sorts", addArity("nat", "c", nil), api.ErrCount},
		{"21 classes", addArity("list", "c", numbered("x", 21)), api.ErrCount},
		{"20 classes that are missing", addArity("list", "c", numbered("x", 20)), api.ErrMissing},
		{"missing class ahead of normal", addArity("list", "c", []string{"ord", "c", "x"}), api.ErrMissing},
		{"first sort decides", addArity("fun", "c", []string{"ord", "c"}, []string{"x"}), api.ErrSort},
		{"not ascending", addArity("list", "c", []string{"ord", "c"}), api.ErrSort},
		{"class twice", addArity("list", "c", []string{"c", "c"}), api.ErrSort},
		{"one below the other", addArity("list", "c", []string{"linorder", "ord"}), api.ErrSort},
		{"one far below the other", addArity("list", "c", []string{"dense", "ord"}), api.ErrSort},
		{"no arity above", addArity("fun", "linorder", nil, nil), sort.ErrRegular},
		{"arity above removed", func(t *api.Theory) { t.Arities = t.Arities[1:] }, sort.ErrRegular},
		{"no arity far above", func(t *api.Theory) { addArity("fun", "dense", nil, nil)(t); addArity("fun", "linorder", nil, nil)(t) }, sort.ErrRegular},
		{"arity above asks for more", func(t *api.Theory) { t.Arities[1].Sorts = [][]string{nil} }, sort.ErrRegular},
		{"arity above asks for another one", func(t *api.Theory) { t.Arities[1].Sorts = [][]string{{"c"}} }, sort.ErrRegular},
		{"arity above asks for less", func(t *api.Theory) { t.Arities[1].Sorts = [][]string{{"c", "linorder"}} }, api.OK},
		{"second argument asks for more", func(t *api.Theory) {
			addArity("fun", "ord", nil, []string{"ord"})(t)
			addArity("fun", "linorder", []string{"linorder"}, []string{"c"})(t)
		}, sort.ErrRegular},
		{"arity above behind it", func(t *api.Theory) {
			addArity("fun", "linorder", []string{"linorder"}, []string{"ord"})(t)
			addArity("fun", "ord", nil, []string{"ord"})(t)
		}, api.OK},
		{"right ahead of complete", func(t *api.Theory) { t.Arities = t.Arities[1:]; addArity("nat", "x")(t) }, api.ErrMissing},
	})
}

func TestCheckManyArities(t *testing.T) {
	x := flat(31)
	for _, n := range numbered("t", 10) {
		addType(n, 0)(&x)
		for _, c := range numbered("c", 30) {
			addArity(n, c)(&x)
		}
	}
	if e := sort.Check(x); e != api.OK {
		t.Error("300 arities", e)
	}
	addArity("x", "x")(&x)
	if e := sort.Check(x); e != api.ErrCount {
		t.Error("301 arities", e)
	}
}

func TestBelowAndLess(t *testing.T) {
	thy, bad := orders(), orders()
	addClass("1")(&bad)
	for i, x := range []struct {
		a, b string
		want bool
	}{
		{"ord", "ord", true}, {"linorder", "ord", true}, {"dense", "ord", true}, {"dense", "c", true}, {"ord", "linorder", false}, {"linorder", "c", false},
		{"x", "x", false}, {"x", "ord", false}, {"ord", "x", false}, {"", "", false},
	} {
		if sort.Below(thy, x.a, x.b) != x.want || sort.Below(bad, x.a, x.b) {
			t.Error(i, x)
		}
	}
	for i, x := range []struct {
		a, b []string
		want bool
	}{
		{nil, nil, true}, {[]string{"ord"}, nil, true}, {nil, []string{"ord"}, false}, {[]string{"linorder"}, []string{"ord"}, true}, {[]string{"ord"}, []string{"linorder"}, false},
		{[]string{"dense"}, []string{"c", "linorder", "ord", "dense"}, true}, {[]string{"c", "linorder"}, []string{"dense"}, false}, {[]string{"ord", "c", "ord"}, []string{"c", "c"}, true},
		{[]string{"x"}, nil, false}, {[]string{"x"}, []string{"x"}, false}, {[]string{"ord"}, []string{"x"}, false}, {[]string{"ord", "x"}, []string{"ord"}, false},
		{slices.Repeat([]string{"dense"}, 50), slices.Repeat([]string{"c"}, 50), true},
	} {
		if sort.Less(thy, x.a, x.b) != x.want || sort.Less(bad, x.a, x.b) {
			t.Error(i, x)
		}
	}
	// only the classes have to be right
	thy.Types[0].Arity = -1
	if !sort.Below(thy, "dense", "ord") || !sort.Less(thy, []string{"dense"}, []string{"c"}) {
		t.Error("the types play no part")
	}
}

func TestNormal(t *testing.T) {
	thy := orders()
	thy.Types[0].Arity = -1 // plays no part
	for i, x := range []struct {
		s, want []string
		e       api.Errno
	}{
		{nil, nil, api.OK}, {[]string{"ord", "linorder"}, []string{"linorder"}, api.OK}, {[]string{"ord", "c", "ord", "c"}, []string{"c", "ord"}, api.OK},
		{[]string{"linorder", "c"}, []string{"c", "linorder"}, api.OK}, {[]string{"ord", "c", "dense", "linorder"}, []string{"dense"}, api.OK},
		{[]string{"ord", "x"}, nil, api.ErrMissing}, {slices.Repeat([]string{"ord"}, 20), []string{"ord"}, api.OK}, {slices.Repeat([]string{"x"}, 21), nil, api.ErrCount},
	} {
		before := slices.Clone(x.s)
		if s, e := sort.Normal(thy, x.s); e != x.e || !slices.Equal(s, x.want) || !slices.Equal(before, x.s) {
			t.Error(i, s, e)
		}
	}
	addClass("ord")(&thy)
	if s, e := sort.Normal(thy, slices.Repeat([]string{"x"}, 21)); e != api.ErrDuplicate || len(s) != 0 {
		t.Error(s, e)
	}
}

func TestMeet(t *testing.T) {
	thy, names := flat(40), numbered("c", 40)
	if s, e := sort.Meet(thy, names[:20], names[:20]); e != api.OK || !slices.Equal(s, names[:20]) {
		t.Error(s, e)
	}
	if s, e := sort.Meet(thy, names[10:20], names[:10]); e != api.OK || !slices.Equal(s, names[:20]) {
		t.Error(s, e)
	}
	if s, e := sort.Meet(thy, names[:20], names[1:21]); e != api.ErrCount || len(s) != 0 {
		t.Error(s, e)
	}
	// 20 classes above one, and others: the meet has few
	addClass("low", names[:20]...)(&thy)
	if s, e := sort.Meet(thy, names[:20], append([]string{"low"}, names[20:30]...)); e != api.OK || len(s) != 11 {
		t.Error(s, e)
	}
	_, e := sort.Meet(thy, names[:21], []string{"x"})
	_, f := sort.Meet(thy, []string{"x"}, names[:21])
	_, g := sort.Meet(thy, nil, names[:21])
	if e != api.ErrCount || f != api.ErrMissing || g != api.ErrCount {
		t.Error(e, f, g)
	}
	addClass("1")(&thy)
	if _, e := sort.Meet(thy, []string{"x"}, nil); e != sort.ErrName {
		t.Error(e)
	}
}

func sameSorts(a, b [][]string) bool { return slices.EqualFunc(a, b, slices.Equal[[]string]) }

func TestArgs(t *testing.T) {
	thy := orders()
	for i, x := range []struct {
		name string
		s    []string
		want [][]string
		e    api.Errno
	}{
		{"list", []string{"linorder"}, [][]string{{"linorder"}}, api.OK},
		{"list", []string{"linorder", "ord"}, [][]string{{"linorder"}}, api.OK},
		{"list", nil, [][]string{nil}, api.OK},
		{"nat", []string{"ord"}, nil, api.OK},
		{"fun", nil, [][]string{nil, nil}, api.OK},
		{"pair", []string{"ord"}, [][]string{{"ord"}, nil}, api.OK},
		{"pair", []string{"ord", "c"}, [][]string{{"c", "ord"}, {"c", "linorder"}}, api.OK},
		{"list", []string{"c"}, nil, api.ErrSort},
		{"list", []string{"c", "ord"}, nil, api.ErrSort},
		{"prop", []string{"ord"}, nil, api.ErrSort},
		{"nat", []string{"dense"}, nil, api.ErrSort},
		{"set", []string{"x"}, nil, api.ErrMissing},
		{"", nil, nil, api.ErrMissing},
		{"list", []string{"x"}, nil, api.ErrMissing},
		{"prop", slices.Repeat([]string{"x"}, 21), nil, api.ErrCount},
	} {
		if l, e := sort.Args(thy, x.name, x.s); e != x.e || !sameSorts(l, x.want) {
			t.Error(i, l, e)
		}
	}
	thy.Types[0].Arity = 11
	if _, e := sort.Args(thy, "set", nil); e != api.ErrRange {
		t.Error(e)
	}
}

// wide has 40 classes, and the constructor t, which is of the first two, if its argument is of the first or last 20.
func wide() api.Theory {
	thy, names := flat(40), numbered("c", 40)
	addType("t", 1)(&thy)
	addType("u", 0)(&thy)
	addArity("t", "c000", names[:20])(&thy)
	addArity("t", "c001", names[20:])(&thy)
	return thy
}

func TestArgsLimit(t *testing.T) {
	thy := wide()
	if l, e := sort.Args(thy, "t", []string{"c000"}); e != api.OK || len(l) != 1 || len(l[0]) != 20 {
		t.Error(l, e)
	}
	if l, e := sort.Args(thy, "t", []string{"c001", "c000"}); e != api.ErrCount || len(l) != 0 {
		t.Error(l, e)
	}
	if _, e := sort.Args(thy, "t", []string{"c001", "c000", "c002"}); e != api.ErrSort {
		t.Error(e)
	}
	// a class below them all makes the sort small again
	x := wide()
	x.Classes = append(x.Classes, api.Class{Name: "d", Supers: numbered("c", 20)})
	x.Arities[1].Sorts = [][]string{{"c020", "c021", "d"}}
	if l, e := sort.Args(x, "t", []string{"c000", "c001"}); e != api.OK || !sameSorts(l, [][]string{{"c020", "c021", "d"}}) {
		t.Error(l, e)
	}
}

// typeText writes a type without variables.
func typeText(t api.Type) string {
	var l []string
	for _, a := range t.Args {
		l = append(l, typeText(a))
	}
	if t.Op != api.TCon || t.Index != 0 || len(t.Sort) != 0 {
		return "?"
	}
	return t.Name + "(" + strings.Join(l, ",") + ")"
}

func TestGround(t *testing.T) {
	thy := orders()
	for i, x := range []struct {
		s     []string
		depth int
		want  string
		e     api.Errno
	}{
		{nil, 0, "", api.OK}, {nil, 1, "prop()", api.OK}, {nil, 2, "fun(prop(),prop())", api.OK}, {[]string{"ord"}, 1, "nat()", api.OK}, {[]string{"ord"}, 2, "list(nat())", api.OK},
		{[]string{"ord"}, 3, "list(list(nat()))", api.OK}, {[]string{"c"}, 5, "", api.OK}, {[]string{"ord", "linorder"}, 1, "nat()", api.OK}, {[]string{"ord", "c"}, 5, "", api.OK},
		{nil, -1, "", api.ErrRange}, {nil, 6, "", api.ErrRange}, {nil, math.MinInt, "", api.ErrRange}, {nil, math.MaxInt, "", api.ErrRange},
		{[]string{"x"}, 6, "", api.ErrMissing}, {slices.Repeat([]string{"ord"}, 21), 6, "", api.ErrCount},
	} {
		u, ok, e := sort.Ground(thy, x.s, x.depth)
		if e != x.e || ok != (x.want != "") || ok && typeText(u) != x.want || !ok && u.Op != 0 {
			t.Error(i, typeText(u), ok, e)
		}
	}
	addArity("nat", "c")(&thy)
	if u, ok, e := sort.Ground(thy, []string{"c", "ord"}, 2); !ok || e != api.OK || typeText(u) != "pair(nat(),nat())" {
		t.Error(typeText(u), ok, e)
	}
	thy.Arities[0].Class = "x"
	if _, ok, e := sort.Ground(thy, []string{"x"}, 9); ok || e != api.ErrMissing {
		t.Error(ok, e)
	}
}

func TestGroundLarge(t *testing.T) {
	thy := flat(1)
	addType("t", 10)(&thy)
	addType("u", 0)(&thy)
	addArity("t", "c000", slices.Repeat([][]string{{"c000"}}, 10)...)(&thy)
	addArity("u", "c000")(&thy)
	u, ok, e := sort.Ground(thy, []string{"c000"}, 5)
	if !ok || e != api.OK || strings.Count(typeText(u), "u") != 10000 {
		t.Error(ok, e)
	}
	// an argument needs more than MaxSort classes, but nat has them all
	x := wide()
	for _, c := range numbered("c", 40) {
		addArity("u", c)(&x)
	}
	if u, ok, e := sort.Ground(x, []string{"c000", "c001"}, 2); !ok || e != api.OK || typeText(u) != "t(u())" {
		t.Error(typeText(u), ok, e)
	}
}
