package net_test

import (
	"fmt"
	"math"
	"math/rand"
	"slices"
	"strings"
	"testing"

	"triforium/api"
	"triforium/net"
)

func con(name string, l ...api.Term) api.Term {
	return app(api.Term{Op: api.Const, Name: name}, l...)
}
func free(name string, l ...api.Term) api.Term {
	return app(api.Term{Op: api.Free, Name: name}, l...)
}
func schematic(name string, l ...api.Term) api.Term {
	return app(api.Term{Op: api.Var, Name: name}, l...)
}
func bound(n int, l ...api.Term) api.Term { return app(api.Term{Op: api.Bound, Num: n}, l...) }
func abs(t api.Term) api.Term             { return api.Term{Op: api.Abs, Kids: []api.Term{t}} }
func app(f api.Term, l ...api.Term) api.Term {
	for _, a := range l {
		f = api.Term{Op: api.App, Kids: []api.Term{f, a}}
	}
	return f
}

func TestKey(t *testing.T) {
	a, x := con("a"), schematic("x")
	for i, c := range []struct {
		t    api.Term
		want string
	}{
		{con("f", a, x), "cf/2 ca/0 *"}, {a, "ca/0"}, {free("a"), "fa/0"}, {bound(3), "b3/0"}, {bound(-3, a), "b-3/1 ca/0"}, {x, "*"}, {schematic("x", a, a), "*"}, {abs(a), "*"}, {app(abs(a), a), "*"},
		{con("f", con("g", x, free("y", a)), abs(a)), "cf/2 cg/2 * fy/1 ca/0 *"}, {con("f", a, con("f", a)), "cf/2 ca/0 cf/1 ca/0"}, {con(""), "c/0"}, {con("a/1 b"), "ca/1 b/0"},
		// what is no term
		{api.Term{}, "*"}, {api.Term{Op: 7, Name: "a"}, "*"}, {api.Term{Op: api.App}, "*"}, {api.Term{Op: api.App, Kids: []api.Term{a}}, "*"}, {api.Term{Op: api.App, Kids: []api.Term{a, a, a}}, "*"},
		{app(api.Term{Op: api.App, Kids: []api.Term{a}}, a), "*"}, {con("f", api.Term{}), "cf/1 *"}, {api.Term{Op: api.Const, Name: "a", Kids: []api.Term{x}}, "ca/0"}, {api.Term{Op: api.Abs, Kids: []api.Term{a, a}}, "*"},
	} {
		if got := strings.Join(net.Key(c.t), " "); got != c.want {
			t.Error(i, got, c.want)
		}
	}
	if got := net.Key(con("f", bound(math.MinInt))); got[1] != fmt.Sprint("b", math.MinInt, "/0") {
		t.Error(got)
	}
}

// of returns a net with values 0, 1, .. of terms.
func of(l ...api.Term) *net.Net[int] {
	n := net.New[int]()
	for i, t := range l {
		n, _ = n.Insert(t, i)
	}
	return n
}

func TestExample(t *testing.T) {
	n := of(con("f", con("a"), schematic("x")), schematic("y"))
	if l := slices.Collect(n.Match(con("f", con("a"), con("b")))); !slices.Equal(l, []int{0, 1}) {
		t.Error(l)
	}
	if l := slices.Collect(n.Match(con("f", con("b"), con("b")))); !slices.Equal(l, []int{1}) {
		t.Error(l)
	}
}

func TestFound(t *testing.T) {
	a, b, x := con("a"), con("b"), schematic("x")
	n := of(a, b, x, con("f", a), con("f", x), con("f", a, b), free("a"), bound(0), abs(a), con("f", con("g", x), con("g", a)), con("f", x, x), con("f", abs(a)))
	for i, c := range []struct {
		t              api.Term
		match, unifies string
	}{
		{a, "[0 2 8]", "[0 2 8]"}, {free("a"), "[2 6 8]", "[2 6 8]"}, {bound(0), "[2 7 8]", "[2 7 8]"}, {bound(1), "[2 8]", "[2 8]"}, {con("f"), "[2 8]", "[2 8]"}, {con("f", a), "[2 3 4 8 11]", "[2 3 4 8 11]"}, {con("f", b), "[2 4 8 11]", "[2 4 8 11]"},
		{con("f", a, b), "[2 5 8 10]", "[2 5 8 10]"}, {con("f", con("g", b), con("g", a)), "[2 8 9 10]", "[2 8 9 10]"}, {con("f", con("g", b), con("g", b)), "[2 8 10]", "[2 8 10]"},
		// a variable is matched by no rigid term, but unified with it; an abstraction is matched by all
		{x, "[2 8]", "[0 1 2 3 4 5 6 7 8 9 10 11]"}, {schematic("F", a), "[2 8]", "[0 1 2 3 4 5 6 7 8 9 10 11]"}, {abs(b), "[0 1 2 3 4 5 6 7 8 9 10 11]", "[0 1 2 3 4 5 6 7 8 9 10 11]"}, {api.Term{}, "[0 1 2 3 4 5 6 7 8 9 10 11]", "[0 1 2 3 4 5 6 7 8 9 10 11]"},
		{con("f", x), "[2 4 8 11]", "[2 3 4 8 11]"}, {con("f", abs(b)), "[2 3 4 8 11]", "[2 3 4 8 11]"}, {con("f", x, con("g", x)), "[2 8 10]", "[2 8 9 10]"}, {con("f", x, b), "[2 8 10]", "[2 5 8 10]"}, {con("f", abs(a), abs(a)), "[2 5 8 9 10]", "[2 5 8 9 10]"},
		{app(abs(a), a), "[0 1 2 3 4 5 6 7 8 9 10 11]", "[0 1 2 3 4 5 6 7 8 9 10 11]"}, {con("h", a), "[2 8]", "[2 8]"},
	} {
		if l := slices.Collect(n.Match(c.t)); fmt.Sprint(l) != c.match {
			t.Error(i, "match", l, c.match)
		}
		if l := slices.Collect(n.Unify(c.t)); fmt.Sprint(l) != c.unifies {
			t.Error(i, "unify", l, c.unifies)
		}
	}
}

func TestEntries(t *testing.T) {
	a, b := con("a"), con("b")
	var none *net.Net[string]
	if none.Len() != 0 || len(slices.Collect(none.All())) != 0 || len(slices.Collect(none.Match(a))) != 0 || len(slices.Collect(none.Unify(schematic("x")))) != 0 {
		t.Error("nil")
	}
	if n, ok := none.Delete(a, "x"); n == nil || ok || n.Len() != 0 {
		t.Error("Delete of nil")
	}
	if n := none.Merge(nil); n == nil || n.Len() != 0 {
		t.Error("Merge of nil")
	}
	n, ok := none.Insert(a, "x")
	if n == nil || !ok || n.Len() != 1 || none.Len() != 0 {
		t.Fatal("Insert into nil")
	}
	m, ok := n.Insert(a, "x")
	if m == nil || ok || m.Len() != 1 {
		t.Error("twice")
	}
	// a key with two values, a value with two keys; terms with the same key are one
	n, _ = n.Insert(a, "y")
	n, _ = n.Insert(b, "x")
	n, _ = n.Insert(schematic("v"), "x")
	if m, ok := n.Insert(abs(a), "x"); ok || m.Len() != 4 {
		t.Error("one key", m.Len())
	}
	if l := slices.Collect(n.All()); n.Len() != 4 || !slices.Equal(l, []string{"x", "y", "x", "x"}) {
		t.Error(l)
	}
	if l := slices.Collect(n.Match(a)); !slices.Equal(l, []string{"x", "y", "x"}) {
		t.Error(l)
	}
	// what is put in again is the last one
	n, ok = n.Delete(a, "x")
	if !ok || n.Len() != 3 {
		t.Error("Delete")
	}
	if m, ok := n.Delete(a, "x"); ok || m == nil || m.Len() != 3 {
		t.Error("Delete twice")
	}
	if _, ok := n.Delete(con("a", b), "y"); ok {
		t.Error("Delete of another key")
	}
	n, _ = n.Insert(a, "x")
	if l := slices.Collect(n.Match(a)); !slices.Equal(l, []string{"y", "x", "x"}) {
		t.Error(l)
	}
	// Merge: the entries of the first one, and then others, in order
	p, _ := net.New[string]().Insert(b, "z")
	p, _ = p.Insert(a, "y")
	p, _ = p.Insert(a, "w")
	if l := slices.Collect(n.Merge(p).All()); !slices.Equal(l, []string{"y", "x", "x", "x", "z", "w"}) || n.Merge(p).Len() != 6 {
		t.Error(l)
	}
	if l := slices.Collect(p.Merge(n).All()); !slices.Equal(l, []string{"z", "y", "w", "x", "x", "x"}) {
		t.Error(l)
	}
	if l := slices.Collect(n.Merge(n).All()); !slices.Equal(l, []string{"y", "x", "x", "x"}) {
		t.Error(l)
	}
	if n.Merge(nil).Len() != 4 || none.Merge(n).Len() != 4 {
		t.Error("Merge with nil")
	}
	for range n.All() { // left early
		break
	}
}

// Values that are equal to none, and such as cannot be compared.
func TestOddValues(t *testing.T) {
	n := net.New[float64]()
	n, ok := n.Insert(con("a"), math.NaN())
	m, again := n.Insert(con("a"), math.NaN())
	if _, gone := m.Delete(con("a"), math.NaN()); !ok || !again || gone || m.Len() != 2 {
		t.Error(ok, again, gone, m.Len())
	}
	k := net.New[any]()
	k, _ = k.Insert(con("a"), []int{1})
	k, _ = k.Insert(con("a"), []int{1})
	k, _ = k.Insert(con("a"), 1)
	if _, ok := k.Insert(con("a"), 1); ok || k.Len() != 3 {
		t.Error(ok, k.Len())
	}
}

// kind tells what a term is: rigid, with its first text, a variable, or any.
func kind(t api.Term) (string, []api.Term) {
	var l []api.Term
	for t.Op == api.App && len(t.Kids) == 2 {
		l = append([]api.Term{t.Kids[1]}, l...)
		t = t.Kids[0]
	}
	switch t.Op {
	case api.Const, api.Free, api.Bound:
		return fmt.Sprint(t.Op, t.Name, t.Num, "/", len(l)), l
	case api.Var:
		return "flexible", nil
	}
	return "any", nil
}

func rigid(k string) bool { return k != "flexible" && k != "any" }

func mayMatch(p, t api.Term) bool {
	k, l := kind(p)
	m, r := kind(t)
	if !rigid(k) || m == "any" {
		return true
	}
	if k != m {
		return false
	}
	for i := range l {
		if !mayMatch(l[i], r[i]) {
			return false
		}
	}
	return true
}

func mayUnify(a, b api.Term) bool {
	k, l := kind(a)
	m, r := kind(b)
	if !rigid(k) || !rigid(m) {
		return true
	}
	if k != m {
		return false
	}
	for i := range l {
		if !mayUnify(l[i], r[i]) {
			return false
		}
	}
	return true
}

// random returns any term.
func random(r *rand.Rand, depth int) api.Term {
	name := string(rune('a' + r.Intn(3)))
	n := r.Intn(12)
	if depth <= 0 {
		n = r.Intn(6)
	}
	switch {
	case n < 2:
		return con(name)
	case n == 2:
		return free(name)
	case n == 3:
		return bound(r.Intn(2))
	case n == 4:
		return schematic(name)
	case n == 5:
		return []api.Term{{}, {Op: api.App, Kids: []api.Term{con(name)}}, abs(con(name))}[r.Intn(3)]
	case n == 6:
		return abs(random(r, depth-1))
	}
	return app(random(r, depth-1), random(r, depth-1))
}

func TestLawsOfNets(t *testing.T) {
	r := rand.New(rand.NewSource(11))
	hits := 0
	for range 300 {
		type item struct {
			t api.Term
			v int
		}
		var list []item
		n := net.New[int]()
		var old []*net.Net[int]
		var was []string
		for range 40 {
			x := item{random(r, 3), r.Intn(3)}
			same := func(y item) bool { return slices.Equal(net.Key(x.t), net.Key(y.t)) && x.v == y.v }
			at := slices.IndexFunc(list, same)
			old, was = append(old, n), append(was, fmt.Sprint(slices.Collect(n.All())))
			var ok, want bool
			if r.Intn(4) == 0 {
				want = at >= 0
				if n, ok = n.Delete(x.t, x.v); want {
					list = slices.Delete(list, at, at+1)
				}
			} else {
				want = at < 0
				if n, ok = n.Insert(x.t, x.v); want {
					list = append(list, x)
				}
			}
			if ok != want || n.Len() != len(list) {
				t.Fatal(ok, want, n.Len(), len(list))
			}
		}
		for i := range old {
			if fmt.Sprint(slices.Collect(old[i].All())) != was[i] {
				t.Fatal("a net has changed")
			}
		}
		values := func(ok func(item) bool) string {
			l := []int{}
			for _, x := range list {
				if ok(x) {
					l = append(l, x.v)
				}
			}
			return fmt.Sprint(l)
		}
		if fmt.Sprint(slices.Collect(n.All())) != values(func(item) bool { return true }) {
			t.Fatal("All")
		}
		for range 20 {
			q := random(r, 3)
			m, u := slices.Collect(n.Match(q)), slices.Collect(n.Unify(q))
			hits += len(m)
			if fmt.Sprint(append([]int{}, m...)) != values(func(x item) bool { return mayMatch(x.t, q) }) || fmt.Sprint(append([]int{}, u...)) != values(func(x item) bool { return mayUnify(x.t, q) }) {
				t.Fatal(net.Key(q), m, u)
			}
			for _, v := range m { // what Match yields Unify yields
				if !slices.Contains(u, v) {
					t.Fatal("Match, but not Unify")
				}
			}
			for _, x := range list {
				a, _ := net.New[int]().Insert(x.t, 0)
				b, _ := net.New[int]().Insert(q, 0)
				if len(slices.Collect(a.Unify(q))) != len(slices.Collect(b.Unify(x.t))) {
					t.Fatal("not symmetric")
				}
			}
		}
	}
	if hits < 1000 {
		t.Error(hits)
	}
}

// What is asked for may be changed behind the call, and a sequence yields the same again.
func TestStill(t *testing.T) {
	n := of(con("f", con("a")), con("f", con("b")))
	q := con("f", con("a"))
	s := n.Match(q)
	q.Kids[1].Name = "b"
	for range 2 {
		if l := slices.Collect(s); !slices.Equal(l, []int{0}) {
			t.Error(l)
		}
	}
	k := net.Key(q)
	k[0] = "spoilt"
	if net.Key(q)[0] != "cf/1" {
		t.Error("Key")
	}
}
