package sort_test

import (
	"fmt"
	"math/rand"
	"slices"
	"testing"

	"triforium/api"
	"triforium/sort"
)

// randomAlgebra returns classes with superclasses, and constructors whose arities are complete: what an argument needs grows with the classes above.
func randomAlgebra(r *rand.Rand) api.Theory {
	t := api.Theory{Name: "R"}
	for i := range 2 + r.Intn(6) {
		var supers []string
		for _, c := range t.Classes {
			if r.Intn(3) == 0 {
				supers = append(supers, c.Name)
			}
		}
		slices.Sort(supers)
		t.Classes = append(t.Classes, api.Class{Name: fmt.Sprintf("c%d", (7*i)%10), Supers: supers})
	}
	for i := range 1 + r.Intn(5) {
		d := api.TypeDecl{Name: fmt.Sprintf("t%d", i), Arity: r.Intn(3)}
		t.Types = append(t.Types, d)
		addRandomArities(r, &t, d)
	}
	r.Shuffle(len(t.Arities), func(i, j int) { t.Arities[i], t.Arities[j] = t.Arities[j], t.Arities[i] })
	return t
}

// addRandomArities gives a constructor some classes, with all that are above.
func addRandomArities(r *rand.Rand, t *api.Theory, d api.TypeDecl) {
	needs := map[string][][]string{}
	for _, c := range t.Classes {
		for range d.Arity {
			needs[c.Name] = append(needs[c.Name], randomSort(r, *t, 2))
		}
	}
	seed := randomSort(r, *t, 3)
	for _, c := range t.Classes {
		if !slices.ContainsFunc(seed, func(s string) bool { return sort.Below(*t, s, c.Name) }) {
			continue
		}
		a := api.Arity{Type: d.Name, Class: c.Name}
		for i := range d.Arity {
			var all []string
			for _, above := range t.Classes {
				if sort.Below(*t, c.Name, above.Name) {
					all = append(all, needs[above.Name][i]...)
				}
			}
			s, _ := sort.Normal(*t, all)
			a.Sorts = append(a.Sorts, s)
		}
		t.Arities = append(t.Arities, a)
	}
}

func randomSort(r *rand.Rand, t api.Theory, most int) []string {
	var s []string
	for range r.Intn(most + 1) {
		s = append(s, t.Classes[r.Intn(len(t.Classes))].Name)
	}
	return s
}

// closure returns all classes that what has a sort has, found without Below.
func closure(t api.Theory, s []string) map[string]bool {
	has := map[string]bool{}
	for _, c := range s {
		has[c] = true
	}
	for i := len(t.Classes) - 1; i >= 0; i-- {
		if has[t.Classes[i].Name] {
			for _, c := range t.Classes[i].Supers {
				has[c] = true
			}
		}
	}
	return has
}

// isWithin is Less by closures.
func isWithin(t api.Theory, a, b []string) bool {
	has := closure(t, a)
	return !slices.ContainsFunc(b, func(c string) bool { return !has[c] })
}

func TestLawsOfSorts(t *testing.T) {
	r := rand.New(rand.NewSource(1))
	for range 300 {
		thy := randomAlgebra(r)
		if e := sort.Check(thy); e != api.OK {
			t.Fatal(e, thy)
		}
		a, b, c := randomSort(r, thy, 4), randomSort(r, thy, 4), randomSort(r, thy, 4)
		if sort.Less(thy, a, b) != isWithin(thy, a, b) || !sort.Less(thy, a, a) {
			t.Fatal("Less", thy.Classes, a, b)
		}
		if sort.Less(thy, a, b) && sort.Less(thy, b, c) && !sort.Less(thy, a, c) {
			t.Fatal("not transitive", thy.Classes, a, b, c)
		}
		checkNormal(t, thy, a, b)
		checkMeet(t, thy, a, b, c)
	}
}

func checkNormal(t *testing.T, thy api.Theory, a, b []string) {
	n, e := sort.Normal(thy, a)
	m, f := sort.Normal(thy, n)
	if e != api.OK || f != api.OK || !slices.Equal(n, m) || !isWithin(thy, n, a) || !isWithin(thy, a, n) {
		t.Fatal("Normal", thy.Classes, a, n)
	}
	for i, c := range n {
		for j, d := range n {
			if (i < j) != (c < d) || i != j && isWithin(thy, []string{c}, []string{d}) {
				t.Fatal("not normal", thy.Classes, n)
			}
		}
	}
	o, _ := sort.Normal(thy, b)
	if (isWithin(thy, a, b) && isWithin(thy, b, a)) != slices.Equal(n, o) {
		t.Fatal("Normal of equal sorts", thy.Classes, a, b)
	}
}

func checkMeet(t *testing.T, thy api.Theory, a, b, c []string) {
	m, e := sort.Meet(thy, a, b)
	n, _ := sort.Normal(thy, slices.Concat(a, b))
	if e != api.OK || !sort.Less(thy, m, a) || !sort.Less(thy, m, b) || !slices.Equal(m, n) {
		t.Fatal("Meet", thy.Classes, a, b, m)
	}
	if sort.Less(thy, c, a) && sort.Less(thy, c, b) && !sort.Less(thy, c, m) {
		t.Fatal("not the greatest", thy.Classes, a, b, c)
	}
}

func TestLawsOfArguments(t *testing.T) {
	r := rand.New(rand.NewSource(2))
	both := 0
	for range 500 {
		thy := randomAlgebra(r)
		name := thy.Types[r.Intn(len(thy.Types))].Name
		a, b := randomSort(r, thy, 2), randomSort(r, thy, 2)
		m, _ := sort.Meet(thy, a, b)
		x, e := sort.Args(thy, name, a)
		y, f := sort.Args(thy, name, b)
		z, g := sort.Args(thy, name, m)
		if (e == api.OK && f == api.OK) != (g == api.OK) {
			t.Fatal("Args of the Meet", thy, name, a, b, e, f, g)
		}
		if g != api.OK {
			continue
		}
		both++
		for i := range z {
			want, _ := sort.Meet(thy, x[i], y[i])
			if !slices.Equal(z[i], want) {
				t.Fatal("the Meet of the Args", thy, name, a, b, z, want)
			}
			if sort.Less(thy, a, b) && !sort.Less(thy, x[i], y[i]) {
				t.Fatal("not narrower", thy, name, a, b, x, y)
			}
		}
	}
	if both < 100 {
		t.Error("too few cases", both)
	}
}

// hasClass reports whether a type without variables has a class, by its arities alone.
func hasClass(thy api.Theory, u api.Type, class string) bool {
	return slices.ContainsFunc(thy.Arities, func(a api.Arity) bool {
		return a.Type == u.Name && a.Class == class && hasSorts(thy, u.Args, a.Sorts)
	})
}

func hasSorts(thy api.Theory, args []api.Type, sorts [][]string) bool {
	for i, s := range sorts {
		for _, c := range s {
			if !hasClass(thy, args[i], c) {
				return false
			}
		}
	}
	return len(args) == len(sorts)
}

func depthOf(u api.Type) int {
	d := 0
	for _, a := range u.Args {
		d = max(d, depthOf(a))
	}
	return d + 1
}

// firstGround is Ground by trying all.
func firstGround(thy api.Theory, s []string, depth int) (api.Type, bool) {
	if depth == 0 {
		return api.Type{}, false
	}
	for _, d := range thy.Types {
		sorts, e := sort.Args(thy, d.Name, s)
		if e != api.OK {
			continue
		}
		u, all := api.Type{Op: api.TCon, Name: d.Name}, true
		for _, x := range sorts {
			a, ok := firstGround(thy, x, depth-1)
			all = all && ok
			u.Args = append(u.Args, a)
		}
		if all {
			return u, true
		}
	}
	return api.Type{}, false
}

func TestLawsOfGround(t *testing.T) {
	r := rand.New(rand.NewSource(3))
	found := 0
	for range 300 {
		thy, before := randomAlgebra(r), false
		s := randomSort(r, thy, 3)
		for depth := range 6 {
			u, ok, e := sort.Ground(thy, s, depth)
			if e != api.OK || before && !ok {
				t.Fatal(thy, s, depth, ok, e)
			}
			before = ok
			if !ok {
				continue
			}
			found++
			if !hasSorts(thy, []api.Type{u}, [][]string{s}) || depthOf(u) > depth {
				t.Fatal("not of the sort", thy, s, u)
			}
			if want, _ := firstGround(thy, s, min(depth, 3)); depth <= 3 && typeText(want) != typeText(u) {
				t.Fatal("not the first one", thy, s, typeText(u))
			}
		}
	}
	if found < 300 {
		t.Error("too few cases", found)
	}
}

// What a function returned may be changed, and what it was given stays as it is.
func TestOwnMemory(t *testing.T) {
	thy := orders()
	for range 2 {
		l, e := sort.Args(thy, "pair", []string{"c"})
		if e != api.OK || !sameSorts(l, [][]string{{"c"}, {"c", "linorder"}}) {
			t.Fatal(l, e)
		}
		l[0][0], l[1][0] = "x", "x"
		s, _ := sort.Normal(thy, []string{"c", "ord"})
		m, _ := sort.Meet(thy, []string{"c"}, []string{"ord"})
		if !slices.Equal(s, []string{"c", "ord"}) || !slices.Equal(m, s) {
			t.Fatal(s, m)
		}
		s[0], m[0] = "x", "x"
	}
	addArity("nat", "c")(&thy)
	u, ok, _ := sort.Ground(thy, nil, 3)
	if !ok || typeText(u) != "fun(fun(prop(),prop()),fun(prop(),prop()))" {
		t.Fatal(typeText(u))
	}
	u.Args[0].Args[0].Name = "x"
	if typeText(u) != "fun(fun(x(),prop()),fun(prop(),prop()))" {
		t.Error("arguments share memory", typeText(u))
	}
}
