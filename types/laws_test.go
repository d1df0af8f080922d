package types_test

import (
	"cmp"
	"math/rand"
	"slices"
	"testing"

	"triforium/api"
	"triforium/types"
)

// sortOf returns the sort of the variables of a name, so that each one has one sort.
func sortOf(name string) []string {
	switch name {
	case "b":
		return []string{"c"}
	case "c":
		return []string{"d"}
	case "d":
		return []string{"c", "d"}
	case "e":
		return []string{"e"}
	}
	return nil
}

// randomType returns a type of the signature with variables.
func randomType(r *rand.Rand, depth int) api.Type {
	n := r.Intn(8)
	if depth <= 1 && n > 4 {
		n = r.Intn(5)
	}
	switch {
	case n < 3:
		name := string(rune('a' + r.Intn(5)))
		return tvar(name, r.Intn(2), sortOf(name)...)
	case n == 3:
		name := string(rune('a' + r.Intn(5)))
		return tfree(name, sortOf(name)...)
	case n == 4:
		return con("nat")
	case n == 5:
		return con("list", randomType(r, depth-1))
	case n == 6:
		return con("pair", randomType(r, depth-1), randomType(r, depth-1))
	}
	return types.Fun(randomType(r, depth-1), randomType(r, depth-1))
}

// randomOf returns a type that has a sort.
func randomOf(r *rand.Rand, s []string, depth int) api.Type {
	for {
		t := randomType(r, depth)
		if types.HasSort(signature(), t, s) {
			return t
		}
	}
}

// oddType returns any type.
func oddType(r *rand.Rand, depth int) api.Type {
	t := api.Type{Op: r.Intn(6) - 1, Name: string(rune('a' + r.Intn(2))), Index: r.Intn(3) - 1}
	for range r.Intn(3) {
		t.Sort = append(t.Sort, string(rune('c'+r.Intn(2))))
	}
	for depth > 1 && len(t.Args) < r.Intn(4) {
		t.Args = append(t.Args, oddType(r, depth-1))
	}
	return t
}

func TestLawsOfOrder(t *testing.T) {
	r := rand.New(rand.NewSource(1))
	var l []api.Type
	for range 60 {
		l = append(l, oddType(r, 3), randomType(r, 2))
	}
	for _, a := range l {
		for _, b := range l {
			x := types.Compare(a, b)
			if x != -types.Compare(b, a) || (x == 0) != types.Equal(a, b) || x < -1 || x > 1 || (x == 0) != sameType(a, b) {
				t.Fatal(a, b, x)
			}
			for _, c := range l {
				if x <= 0 && types.Compare(b, c) <= 0 && types.Compare(a, c) > 0 {
					t.Fatal("not transitive", a, b, c)
				}
			}
		}
	}
}

// sameType is equality by fields.
func sameType(a, b api.Type) bool {
	return a.Op == b.Op && a.Name == b.Name && a.Index == b.Index && slices.Equal(a.Sort, b.Sort) && slices.EqualFunc(a.Args, b.Args, sameType)
}

// instance gives all variables of types random types of their sorts.
func instance(r *rand.Rand, l ...api.Type) []api.TypeBind {
	var binds []api.TypeBind
	for _, v := range types.Variables(con("all", l...)) {
		if v.Op == api.TVar {
			binds = append(binds, bind(v.Name, v.Index, randomOf(r, v.Sort, 3)))
		}
	}
	return binds
}

func TestLawsOfMatching(t *testing.T) {
	r, thy := rand.New(rand.NewSource(2)), signature()
	matched := 0
	for range 2000 {
		p := randomType(r, 4)
		l := instance(r, p)
		m, e := types.Match(thy, p, types.Apply(l, p), nil)
		if e != api.OK || len(m) != len(l) {
			t.Fatal(e, p, l)
		}
		for i, b := range m {
			if !sameBinds([]api.TypeBind{b}, l[i:i+1]) {
				t.Fatal("another bind", p, l, m)
			}
		}
		u := randomType(r, 3)
		m, e = types.Match(thy, p, u, nil)
		if e == api.OK {
			matched++
			if !types.Equal(types.Apply(m, p), u) {
				t.Fatal("the pattern is not the type", p, u, m)
			}
			checkSorts(t, m, p)
		}
	}
	if matched < 100 {
		t.Error("too few matches", matched)
	}
}

// checkSorts reports each bind whose type does not have the sort of its variable in a type.
func checkSorts(t *testing.T, l []api.TypeBind, u api.Type) {
	t.Helper()
	for _, v := range types.Variables(u) {
		if v.Op == api.TVar && !types.HasSort(signature(), types.Apply(l, v), v.Sort) {
			t.Fatal("not of the sort", v, l)
		}
	}
}

func TestLawsOfUnification(t *testing.T) {
	r, thy := rand.New(rand.NewSource(3)), signature()
	unified, failed := 0, 0
	for range 4000 {
		a, b := randomType(r, 3), randomType(r, 3)
		l, e := types.Unify(thy, a, b)
		back, f := types.Unify(thy, b, a)
		if (e == api.OK) != (f == api.OK) {
			t.Fatal("one way only", a, b, e, f)
		}
		if e != api.OK {
			failed++
			checkNoCommon(t, r, a, b)
			continue
		}
		unified++
		both := types.Fun(a, b)
		x, y := types.Apply(l, a), types.Apply(l, b)
		if !types.Equal(x, y) || !types.Equal(types.Apply(l, x), x) {
			t.Fatal("not equal", a, b, l)
		}
		checkSorts(t, l, both)
		checkOrder(t, l)
		if _, e := types.Match(thy, types.Apply(l, both), types.Apply(back, both), nil); e != api.OK {
			t.Fatal("not as general as the other way", a, b, l, back)
		}
	}
	if unified < 500 || failed < 500 {
		t.Error("too few cases", unified, failed)
	}
}

func checkOrder(t *testing.T, l []api.TypeBind) {
	for i := 1; i < len(l); i++ {
		if cmp.Or(cmp.Compare(l[i-1].Name, l[i].Name), cmp.Compare(l[i-1].Index, l[i].Index)) >= 0 {
			t.Fatal("binds not in order", l)
		}
	}
}

// checkNoCommon tries some instances of both types, which must not be equal.
func checkNoCommon(t *testing.T, r *rand.Rand, a, b api.Type) {
	for range 3 {
		if l := instance(r, a, b); types.Equal(types.Apply(l, a), types.Apply(l, b)) {
			t.Fatal("a unifier was missed", a, b, l)
		}
	}
}

// loosen replaces some parts of a type by new variables that are of a sort the part has, and returns what they stand for.
func loosen(r *rand.Rand, u api.Type, index int, binds *[]api.TypeBind) api.Type {
	if r.Intn(4) == 0 {
		for _, b := range *binds {
			if b.Index == index && types.Equal(b.To, u) && r.Intn(2) == 0 {
				return tvar(b.Name, b.Index, sortOf(b.Name)...)
			}
		}
		name := string(rune('a' + r.Intn(5)))
		taken := slices.ContainsFunc(*binds, func(b api.TypeBind) bool { return b.Name == name && b.Index == index })
		if !taken && types.HasSort(signature(), u, sortOf(name)) {
			*binds = append(*binds, bind(name, index, u))
			return tvar(name, index, sortOf(name)...)
		}
	}
	v := u
	v.Args = nil
	for _, a := range u.Args {
		v.Args = append(v.Args, loosen(r, a, index, binds))
	}
	return v
}

// Two types of which a third one is an instance unify, and this is an instance of what they become.
func TestUnificationIsMostGeneral(t *testing.T) {
	r, thy := rand.New(rand.NewSource(4)), signature()
	for range 3000 {
		var binds []api.TypeBind
		u := types.Apply(instance(r, tvar("a", 0)), tvar("a", 0))
		for _, v := range types.Variables(u) { // no variables but fixed ones
			if v.Op == api.TVar {
				u = types.Apply([]api.TypeBind{bind(v.Name, v.Index, tfree(v.Name, v.Sort...))}, u)
			}
		}
		a, b := loosen(r, u, 0, &binds), loosen(r, u, 1, &binds)
		if !types.Equal(types.Apply(binds, a), u) || !types.Equal(types.Apply(binds, b), u) {
			t.Fatal("the test is wrong", u, a, b, binds)
		}
		l, e := types.Unify(thy, a, b)
		if e != api.OK {
			t.Fatal(e, a, b, binds)
		}
		checkSorts(t, l, types.Fun(a, b))
		// all at once: what the variables became must match what they stand for
		pattern, want := con("nat"), con("nat")
		for _, v := range types.Variables(types.Fun(a, b)) {
			if v.Op == api.TVar {
				pattern, want = types.Fun(pattern, types.Apply(l, v)), types.Fun(want, types.Apply(binds, v))
			}
		}
		if _, e := types.Match(thy, pattern, want, nil); e != api.OK {
			t.Fatal("not the most general", a, b, l, binds)
		}
	}
}

func TestLawsOfTexts(t *testing.T) {
	r := rand.New(rand.NewSource(5))
	for range 2000 {
		u := randomType(r, 4)
		s, e := types.Text(u)
		v, f := types.Read(s)
		w, _ := types.Text(v)
		if e != api.OK || f != api.OK || !types.Equal(u, v) || w != s {
			t.Fatal(s, w, e, f)
		}
		// a text with a change is no text, or that of what is read
		b := []byte(s)
		b[r.Intn(len(b))] = "a?'.(){}, 01"[r.Intn(12)]
		if v, e := types.Read(string(b)); e == api.OK {
			if w, _ := types.Text(v); w != string(b) {
				t.Fatalf("%q is read as %q", b, w)
			}
		}
	}
}

func TestLawsOfInstances(t *testing.T) {
	r, thy := rand.New(rand.NewSource(6)), signature()
	had := 0
	for range 2000 {
		u := randomType(r, 3)
		v := types.Apply(instance(r, u), u)
		for _, s := range [][]string{nil, {"c"}, {"d"}, {"c", "d"}, {"e"}} {
			if types.HasSort(thy, u, s) {
				had++
				if !types.HasSort(thy, v, s) {
					t.Fatal(u, v, s)
				}
			}
		}
		if n := types.MaxIndex(u); types.MaxIndex(types.Raise(u, 3)) != max(n+3, -1) && n >= 0 {
			t.Fatal("Raise", u)
		}
	}
	if had < 3000 {
		t.Error("too few cases", had)
	}
}

// No function panics, whatever it is given.
func TestAnyTypes(t *testing.T) {
	r := rand.New(rand.NewSource(7))
	for range 3000 {
		a, b := oddType(r, 4), oddType(r, 4)
		thy := signature()
		types.Strip(a)
		types.Size(a)
		types.Variables(a)
		types.Raise(a, r.Intn(5)-2)
		types.MaxIndex(a)
		if !types.Equal(types.Apply(nil, a), a) {
			t.Fatal("Apply", a)
		}
		e := types.Check(thy, a)
		_, f := types.Unify(thy, a, b)
		_, g := types.Match(thy, a, b, []api.TypeBind{bind("a", 0, b)})
		if e != api.OK && (f != e || g != e || types.HasSort(thy, a, nil)) {
			t.Fatal(a, e, f, g)
		}
		if s, e := types.Text(a); e != api.OK && s != "" {
			t.Fatal(s, e)
		}
	}
}
