package infer_test

import (
	"math"
	"math/rand"
	"slices"
	"strconv"
	"testing"

	"triforium/api"
	"triforium/infer"
	"triforium/sort"
	"triforium/term"
	"triforium/types"
)

// maker makes random raw terms.
type maker struct{ *rand.Rand }

func (m maker) typ(depth int) api.Type {
	if depth > 0 {
		switch m.Intn(6) {
		case 0:
			return typ("nat")
		case 1:
			return api.Type{Op: api.TCon, Name: "list", Args: []api.Type{m.typ(depth - 1)}}
		case 2:
			return types.Fun(m.typ(depth-1), m.typ(depth-1))
		}
	}
	return typ([]string{"nat", "prop", "'a", "'b{c}", "'c{d}", "?a.0", "?a.1{c}", "?b.0{e}"}[m.Intn(8)])
}

// open returns the zero type, or a given one now and then.
func (m maker) open(odds int) api.Type {
	if m.Intn(odds) > 0 {
		return api.Type{}
	}
	return m.typ(2)
}

func (m maker) leaf(around int) api.Term {
	switch n := m.Intn(8); {
	case n < 2 && around > 0:
		return bound(m.Intn(around))
	case n < 5:
		names := []string{"zero", "nil", "cons", "size", "dup", "both", "any", "two", "imp", "all", "eq", "cons", "size"}
		return api.Term{Op: api.Const, Name: names[m.Intn(len(names))], Type: m.open(12)}
	case n < 7:
		return api.Term{Op: api.Free, Name: []string{"x", "y", "n", "f"}[m.Intn(4)], Type: m.open(12)}
	}
	return api.Term{Op: api.Var, Name: "x", Num: m.Intn(2), Type: m.open(12)}
}

func (m maker) term(depth, around int) api.Term {
	if depth == 0 || m.Intn(5) == 0 {
		return m.leaf(around)
	}
	switch m.Intn(8) {
	case 0, 1:
		return api.Term{Op: api.Abs, Name: "x", Type: m.open(6), Kids: []api.Term{m.term(depth-1, around+1)}}
	case 2:
		return api.Term{Op: infer.Constraint, Type: m.typ(2), Kids: []api.Term{m.term(depth-1, around)}}
	}
	return app(m.term(depth-1, around), m.term(depth-1, around))
}

func (m maker) known() []infer.Known {
	var l []infer.Known
	for _, n := range []string{"n", "f", "x"} {
		if m.Intn(3) == 0 {
			l = append(l, infer.Known{Name: n, Type: m.typ(2)})
		}
	}
	return l
}

// naive finds types by the words of the chapter, with the unifier of layer 2. Given TVars are TFrees here whose names begin with R.
type naive struct {
	thy     api.Theory
	algebra sort.Algebra
	known   []infer.Known
	binds   []api.TypeBind
	next    int
	names   map[string]api.Type
	nodes   []api.Type
}

func rigid(t api.Type) api.Type {
	if t.Op == api.TVar {
		return api.Type{Op: api.TFree, Name: "R" + t.Name + "." + strconv.Itoa(t.Index), Sort: t.Sort}
	}
	return mapped(t, rigid)
}

func soft(t api.Type) api.Type {
	if t.Op == api.TFree && t.Name[0] == 'R' {
		n, _ := strconv.Atoi(t.Name[len(t.Name)-1:])
		return api.Type{Op: api.TVar, Name: t.Name[1 : len(t.Name)-2], Index: n, Sort: t.Sort}
	}
	return mapped(t, soft)
}

func mapped(t api.Type, f func(api.Type) api.Type) api.Type {
	var l []api.Type
	for _, a := range t.Args {
		l = append(l, f(a))
	}
	t.Args = l
	return t
}

func (n *naive) fresh() api.Type {
	n.next++
	return api.Type{Op: api.TVar, Name: "T", Index: n.next - 1}
}

// must makes types equal.
func (n *naive) must(a, b api.Type) {
	l, next, e := types.UnifyIn(n.algebra, types.Apply(n.binds, a), types.Apply(n.binds, b), n.next)
	switch e {
	case api.OK:
	case api.ErrFail, types.ErrOccurs:
		panic(api.ErrType)
	default:
		panic(e)
	}
	n.next = next
	for i := range n.binds {
		n.binds[i].To = types.Apply(l, n.binds[i].To)
	}
	n.binds = append(n.binds, l...)
	for _, b := range n.binds {
		if size, _ := types.Size(b.To); size > 2000 {
			panic(api.ErrLarge)
		}
	}
}

// own returns the type of a node: a given one, or a new variable.
func (n *naive) own(t api.Type) api.Type {
	if t.Op == 0 {
		return n.fresh()
	}
	return rigid(t)
}

func (n *naive) find(t api.Term, around []api.Type) api.Type {
	switch t.Op {
	case api.Bound:
		return around[t.Num]
	case api.App:
		f, a, r := n.find(t.Kids[0], around), n.find(t.Kids[1], around), n.fresh()
		n.must(f, types.Fun(a, r))
		return r
	case infer.Constraint:
		u := n.find(t.Kids[0], around)
		n.must(u, rigid(t.Type))
		return u
	case api.Abs:
		u := n.own(t.Type)
		n.nodes = append(n.nodes, u)
		return types.Fun(u, n.find(t.Kids[0], append([]api.Type{u}, around...)))
	}
	u := n.leaf(t)
	n.nodes = append(n.nodes, u)
	return u
}

func (n *naive) leaf(t api.Term) api.Type {
	if t.Op == api.Const {
		i := slices.IndexFunc(n.thy.Consts, func(c api.ConstDecl) bool { return c.Name == t.Name })
		if i < 0 {
			panic(infer.ErrUnknown)
		}
		var l []api.TypeBind
		for _, v := range types.Variables(n.thy.Consts[i].Type) {
			w := n.fresh()
			w.Sort = v.Sort
			l = append(l, api.TypeBind{Name: v.Name, To: w})
		}
		u := types.Apply(l, n.thy.Consts[i].Type)
		if t.Type.Op == 0 {
			return u
		}
		n.must(rigid(t.Type), u)
	}
	if t.Type.Op != 0 {
		return rigid(t.Type)
	}
	key := strconv.Itoa(t.Op) + t.Name + "." + strconv.Itoa(t.Num)
	if _, ok := n.names[key]; !ok {
		n.names[key] = n.fresh()
		if i := slices.IndexFunc(n.known, func(k infer.Known) bool { return k.Name == t.Name }); i >= 0 && t.Op == api.Free {
			n.names[key] = rigid(n.known[i].Type)
		}
	}
	return n.names[key]
}

// terms is infer.Terms of raw terms whose forms and given types are right.
func (n *naive) terms(raw []api.Term, want []api.Type) (l []api.Term, e api.Errno) {
	defer func() {
		if x := recover(); x != nil {
			l, e = nil, x.(api.Errno)
		}
	}()
	for i, t := range raw {
		if u := n.find(t, nil); want[i].Op != 0 {
			n.must(u, rigid(want[i]))
		}
	}
	taken := map[string]bool{}
	note := func(t api.Type) {
		for _, v := range types.Variables(t) {
			taken[v.Name] = taken[v.Name] || v.Op == api.TFree
		}
	}
	for _, k := range n.known {
		note(k.Type)
	}
	for i, t := range raw {
		note(want[i])
		for x := range term.Nodes(&t) {
			note(x.Type)
		}
	}
	var more []api.TypeBind
	name := 0
	for i := range n.nodes {
		n.nodes[i] = types.Apply(n.binds, n.nodes[i])
		for _, v := range types.Variables(n.nodes[i]) {
			if v.Op == api.TVar && !slices.ContainsFunc(more, func(b api.TypeBind) bool { return b.Name == v.Name && b.Index == v.Index }) {
				for taken[letter(name)] {
					name++
				}
				more = append(more, api.TypeBind{Name: v.Name, Index: v.Index, To: api.Type{Op: api.TFree, Name: letter(name), Sort: v.Sort}})
				name++
			}
		}
	}
	for _, t := range raw {
		r := n.whole(t, more)
		if _, e := term.Check(n.thy, r); e != api.OK {
			return nil, e
		}
		l = append(l, r)
	}
	return l, api.OK
}

func letter(n int) string {
	s := string(rune('a' + n%26))
	if n >= 26 {
		s += strconv.Itoa(n / 26)
	}
	return s
}

func (n *naive) whole(t api.Term, more []api.TypeBind) api.Term {
	if t.Op == infer.Constraint {
		return n.whole(t.Kids[0], more)
	}
	r := t
	if t.Op != api.App && t.Op != api.Bound {
		r.Type = soft(types.Apply(more, n.nodes[0]))
		n.nodes = n.nodes[1:]
	}
	r.Kids = nil
	for _, k := range t.Kids {
		r.Kids = append(r.Kids, n.whole(k, more))
	}
	return r
}

// random returns raw terms, what is known, and what they must be.
func (m maker) random() ([]infer.Known, []api.Term, []api.Type) {
	var raw []api.Term
	var want []api.Type
	for range 1 + m.Intn(2) {
		raw = append(raw, m.term(1+m.Intn(5), 0))
		want = append(want, m.open(5))
	}
	return m.known(), raw, want
}

func TestNaive(t *testing.T) {
	thy := numbers()
	algebra, _ := sort.Open(thy)
	m := maker{rand.New(rand.NewSource(1))}
	count := map[api.Errno]int{}
	for range 8000 {
		known, raw, want := m.random()
		n := naive{thy: thy, algebra: algebra, known: known, names: map[string]api.Type{}}
		l, e := infer.Terms(thy, known, raw, want)
		w, f := n.terms(raw, want)
		if e != f || !slices.EqualFunc(l, w, term.Equal) {
			t.Fatal(known, raw, want, e, f, texts(l), texts(w))
		}
		count[e]++
		if e == api.OK {
			laws(t, m, thy, known, raw, want, l)
		}
	}
	if count[api.OK] < 1000 || count[api.ErrType] < 1000 || count[api.ErrSort] < 100 {
		t.Error(count)
	}
}

// laws holds the promises against terms that have types.
func laws(t *testing.T, m maker, thy api.Theory, known []infer.Known, raw []api.Term, want []api.Type, l []api.Term) {
	for i := range l {
		u, e := term.Check(thy, l[i])
		if e != api.OK || want[i].Op != 0 && !types.Equal(u, want[i]) || !term.Equal(infer.Erase(l[i]), infer.Erase(raw[i])) || !constrained(thy, raw[i], l[i], nil) {
			t.Fatal("right", raw[i], texts(l))
		}
	}
	again, e := infer.Terms(thy, known, l, want)
	if e != api.OK || !slices.EqualFunc(again, l, term.Equal) {
		t.Fatal("again", texts(l), texts(again), e)
	}
	var erased []api.Term
	for _, x := range l {
		erased = append(erased, infer.Erase(x))
	}
	general, e := infer.Terms(thy, nil, erased, make([]api.Type, len(l)))
	if !twoTypes(l) && (e != api.OK || !isInstance(thy, l, general)) {
		t.Fatal("general", texts(l), texts(general), e)
	}
	if m.Intn(4) == 0 {
		pinned(t, thy, known, l[0])
	}
}

// twoTypes reports whether a variable has different types in several terms, so that they are right only one by one.
func twoTypes(l []api.Term) bool {
	var whole api.Term = api.Term{Op: api.Free, Name: "whole"}
	for _, x := range l {
		whole.Kids = append(whole.Kids, x)
	}
	seen := map[string]api.Type{}
	for _, v := range append(term.Frees(whole), term.Vars(whole)...) {
		key := strconv.Itoa(v.Op) + v.Name + strconv.Itoa(v.Num)
		if old, ok := seen[key]; ok && !types.Equal(old, v.Type) {
			return true
		}
		seen[key] = v.Type
	}
	return false
}

// constrained reports whether the parts of a term have the types of the constraints of its raw term.
func constrained(thy api.Theory, raw, t api.Term, around []api.Type) bool {
	if raw.Op == infer.Constraint {
		return constrained(thy, raw.Kids[0], t, around) && types.Equal(typeWithin(t, around), raw.Type)
	}
	if raw.Type.Op != 0 && !types.Equal(raw.Type, t.Type) {
		return false
	}
	if raw.Op == api.Abs {
		around = append([]api.Type{t.Type}, around...)
	}
	for i := range raw.Kids {
		if !constrained(thy, raw.Kids[i], t.Kids[i], around) {
			return false
		}
	}
	return true
}

// typeWithin returns the type of a part of a term.
func typeWithin(t api.Term, around []api.Type) api.Type {
	for i, u := range around {
		t = term.Put(t, api.Term{Op: api.Free, Name: "around" + strconv.Itoa(i), Type: u})
	}
	u, _ := term.TypeOf(t)
	return u
}

// isInstance reports whether the types of terms are instances of those of general ones.
func isInstance(thy api.Theory, l, general []api.Term) bool {
	var binds []api.TypeBind
	open := func(t api.Type) api.Type { return t }
	open = func(t api.Type) api.Type {
		if t.Op == api.TFree {
			t.Op = api.TVar
		}
		return mapped(t, open)
	}
	for i := range l {
		var own []api.Type
		for n := range term.Nodes(&l[i]) {
			own = append(own, n.Type)
		}
		at := 0
		for n := range term.Nodes(&general[i]) {
			if n.Type.Op != 0 {
				var e api.Errno
				if binds, e = types.Match(thy, open(n.Type), own[at], binds); e != api.OK {
					return false
				}
			}
			at++
		}
	}
	return true
}

// pinned holds Pinned against its own words.
func pinned(t *testing.T, thy api.Theory, known []infer.Known, x api.Term) {
	r, e := infer.Pinned(thy, known, x)
	back, f := infer.Term(thy, known, x, api.Type{})
	if f != api.OK || !term.Equal(back, x) {
		if e == api.OK {
			t.Fatal("Pinned", texts([]api.Term{x}))
		}
		return
	}
	want := term.Apply(api.Inst{}, x)
	for n := range term.Nodes(&want) {
		kept := n.Type
		n.Type = api.Type{}
		if y, e := infer.Term(thy, known, want, api.Type{}); e != api.OK || !term.Equal(y, x) {
			n.Type = kept
		}
	}
	if e != api.OK || !term.Equal(r, want) {
		t.Fatal("Pinned", texts([]api.Term{x}), e)
	}
}

// TestAny gives raw terms of any form.
func TestAny(t *testing.T) {
	m := maker{rand.New(rand.NewSource(2))}
	number := func() int {
		return []int{0, 0, 1, 2, 7, -1, 1000001, math.MaxInt, math.MinInt}[m.Intn(9)]
	}
	var odd func(depth int) api.Term
	odd = func(depth int) api.Term {
		x := m.leaf(2)
		x.Op = 1 + m.Intn(7)
		switch m.Intn(6) {
		case 0:
			x.Op = number()
		case 1:
			x.Num = number()
		case 2:
			x.Name = []string{"", "1", "\xff"}[m.Intn(3)]
		case 3:
			x.Type = api.Type{Op: number(), Name: "a", Index: number(), Sort: []string{"c", "c"}[m.Intn(3):][:0]}
		}
		for range []int{0, 0, 0, 0, 0, 1, 2, 1}[max(0, min(7, x.Op))] + m.Intn(2)*m.Intn(2)*m.Intn(2) {
			if depth > 0 {
				x.Kids = append(x.Kids, odd(depth-1))
			}
		}
		return x
	}
	for range 8000 {
		x := odd(3)
		e := infer.Form(x)
		_, f := infer.Term(numbers(), []infer.Known{{"x", m.typ(1)}}, x, m.open(3))
		if e != api.OK && f != e {
			t.Fatal(x, e, f)
		}
		y := infer.Erase(x)
		if !term.Equal(infer.Erase(y), y) {
			t.Fatal(x)
		}
		infer.Pinned(numbers(), nil, x)
		infer.Choose(numbers(), nil, []api.Term{x, y}, m.open(3))
	}
}
