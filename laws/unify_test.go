package laws

import (
	"hash/fnv"
	"math/rand"
	"slices"
	"strconv"
	"testing"

	"triforium/api"
	"triforium/pattern"
	"triforium/term"
	"triforium/types"
	"triforium/unify"
)

// shortName returns a name of variables that tells their type.
func shortName(t api.Type) string {
	h := fnv.New32a()
	h.Write([]byte(must(types.Text(t))))
	return strconv.FormatUint(uint64(h.Sum32()), 36)
}

// grower makes random beta-normal terms.
type grower struct {
	r        *rand.Rand
	patterns bool       // variables are applied to different Bounds alone
	types    []api.Type // that are used
}

func newGrower(seed int64) *grower {
	n, l := con("nat"), con("list", con("nat"))
	return &grower{r: rand.New(rand.NewSource(seed)), patterns: true, types: []api.Type{n, n, n, prop(), l, tfree("a"), fun(n, n)}}
}

// loosened has type variables, too.
func (g *grower) loosened() *grower {
	a, c := tvar("a"), tvar("c", "c")
	g.types = append(g.types, a, c, con("list", a), con("list", c), a, fun(a, con("nat")))
	return g
}

func (g *grower) pick(n int) int { return g.r.Intn(n) }
func (g *grower) typ() api.Type  { return g.types[g.pick(len(g.types))] }

// term returns a random term of a type.
func (g *grower) term(t api.Type, around []api.Type, depth int) api.Term {
	if t.Name == "fun" && g.pick(3) > 0 {
		return abs(t.Args[0], g.term(t.Args[1], append(slices.Clone(around), t.Args[0]), depth))
	}
	n := g.pick(10)
	switch {
	case n < 3:
		return g.variable(t, around, depth)
	case n < 6 || depth <= 0:
		for range 6 { // one of the bound variables
			if len(around) == 0 {
				break
			}
			i := g.pick(len(around))
			args, result := types.Strip(around[i])
			if types.Equal(around[i], t) {
				return bound(len(around) - 1 - i)
			}
			if len(args) > 0 && types.Equal(result, t) && depth > 0 {
				return app(bound(len(around)-1-i), g.all(args, around, depth-1)...)
			}
		}
	case n == 6 && types.Equal(t, con("nat")):
		u := []api.Type{con("nat"), con("list", con("nat"))}[g.pick(2)]
		if len(g.types) > 7 {
			u = []api.Type{tvar("c", "c"), con("list", tvar("c", "c")), u}[g.pick(3)]
		}
		return app(constant("size", fun(u, t)), g.term(u, around, depth-1))
	}
	if t.Name == "list" && g.pick(2) == 0 {
		return constant("nil", t)
	}
	var args []api.Type
	u := t
	for range g.pick(min(3, max(depth, 0)+1)) {
		a := g.typ()
		args = append([]api.Type{a}, args...)
		u = fun(a, u)
	}
	return app(api.Term{Op: api.Free, Name: []string{"x", "y"}[g.pick(2)] + shortName(u), Type: u}, g.all(args, around, depth-1)...)
}

func (g *grower) all(l []api.Type, around []api.Type, depth int) []api.Term {
	var r []api.Term
	for _, t := range l {
		r = append(r, g.term(t, around, depth))
	}
	return r
}

// variable returns a variable that is applied to Bounds, or to any terms.
func (g *grower) variable(t api.Type, around []api.Type, depth int) api.Term {
	var args []api.Term
	var typed []api.Type
	for _, i := range g.r.Perm(len(around)) {
		if len(args) < 3 && g.pick(2) == 0 {
			args, typed = append(args, bound(len(around)-1-i)), append(typed, around[i])
		}
	}
	if !g.patterns && g.pick(2) == 0 && depth > 0 {
		u := g.typ()
		args, typed = append(args, g.term(u, around, depth-1)), append(typed, u)
	}
	u := t
	for i := len(typed) - 1; i >= 0; i-- {
		u = fun(typed[i], u)
	}
	return app(api.Term{Op: api.Var, Name: "v" + shortName(u), Num: g.pick(3), Type: u}, args...)
}

// weaker returns a term in whose place of some parts stand variables, applied to what is loose in these.
func (g *grower) weaker(t api.Term, around []api.Type) api.Term {
	head, args := term.Spine(t)
	if head.Op == api.Abs && len(args) == 0 {
		return api.Term{Op: api.Abs, Name: "z", Type: head.Type, Kids: []api.Term{g.weaker(head.Kids[0], append(slices.Clone(around), head.Type))}}
	}
	if g.pick(4) == 0 && head.Op != api.Var {
		return g.hole(t, around)
	}
	if head.Op == api.Var {
		return t
	}
	for i := range args {
		args[i] = g.weaker(args[i], around)
	}
	return app(head, args...)
}

// hole returns a variable that can become a term.
func (g *grower) hole(t api.Term, around []api.Type) api.Term {
	u := typeWithin(t, around)
	var args []api.Term
	for b := range around {
		if hasBound(t, b) || g.pick(3) == 0 {
			args = append(args, bound(b))
		}
	}
	if !g.patterns && g.pick(4) > 0 {
		for range 1 + g.pick(2) {
			args = append(args, g.part(t, around))
		}
	}
	g.r.Shuffle(len(args), func(i, j int) { args[i], args[j] = args[j], args[i] })
	for i := len(args) - 1; i >= 0; i-- {
		u = fun(typeWithin(args[i], around), u)
	}
	return app(api.Term{Op: api.Var, Name: "w" + shortName(u), Num: g.pick(4), Type: u}, args...)
}

// part returns a part of a term that has no bound variables but those around the term.
func (g *grower) part(t api.Term, around []api.Type) api.Term {
	head, args := term.Spine(t)
	switch {
	case g.pick(4) == 0 || head.Op == api.Abs || len(args) == 0:
		return t
	case g.pick(4) == 0:
		return head
	}
	return g.part(args[g.pick(len(args))], around)
}

// typeWithin returns the type of a term with bound variables of some types around.
func typeWithin(t api.Term, around []api.Type) api.Type {
	for i := len(around) - 1; i >= 0; i-- {
		t = abs(around[i], t)
	}
	u := must(term.TypeOf(t))
	for range around {
		u = u.Args[1]
	}
	return u
}

// hasBound reports whether a loose Bound stands in a term.
func hasBound(t api.Term, n int) bool {
	if t.Op == api.Bound {
		return t.Num == n
	}
	if t.Op == api.Abs {
		n++
	}
	return slices.ContainsFunc(t.Kids, func(k api.Term) bool { return hasBound(k, n) })
}

// pair returns a random pair, whose sides mostly come from one term.
func (g *grower) pair() pattern.Pair {
	t := g.typ()
	if g.pick(4) == 0 {
		return pattern.Pair{A: g.term(t, nil, 3), B: g.term(g.typ(), nil, 3)}
	}
	c := g.term(t, nil, 4)
	return pattern.Pair{A: g.weaker(c, nil), B: g.weaker(c, nil)}
}

func (g *grower) pairs() []pattern.Pair {
	l := []pattern.Pair{g.pair()}
	for g.pick(3) == 0 {
		l = append(l, g.pair())
	}
	return l
}

// instText returns the text of an instantiation.
func instText(i api.Inst) string {
	s := ""
	for _, b := range i.Types {
		s += must(types.Text(api.Type{Op: api.TVar, Name: b.Name, Index: b.Index})) + " := " + must(types.Text(b.To)) + "\n"
	}
	for _, b := range i.Terms {
		s += must(types.Text(api.Type{Op: api.TVar, Name: b.Name, Index: b.Index})) + " := " + must(term.Text(renamed(b.To))) + "\n"
	}
	return s
}

// renamed returns a term all of whose abstractions are named x.
func renamed(t api.Term) api.Term {
	if t.Op == api.Abs {
		t.Name = "x"
	}
	t.Kids = slices.Clone(t.Kids)
	for i := range t.Kids {
		t.Kids[i] = renamed(t.Kids[i])
	}
	return t
}

func pairsText(l []pattern.Pair) string {
	s := ""
	for _, t := range pattern.Terms(l) {
		s += must(term.Text(renamed(t))) + "\n"
	}
	return s
}

func TestPatternsByTheWord(t *testing.T) {
	thy := theories()[1]
	good, typed := 0, 0
	for seed := range int64(6000) {
		g := newGrower(seed)
		if seed%2 == 0 {
			g.loosened()
		}
		l := g.pairs()
		want, f := naiveUnify(thy, l)
		got, e := pattern.Unify(thy, l)
		if e != f || instText(got) != instText(want) {
			t.Fatal(seed, "\n"+pairsText(l), e, "\n"+instText(got), f, "\n"+instText(want))
		}
		if e != api.OK {
			continue
		}
		good++
		if len(got.Types) > 0 {
			typed++
		}
		if !pattern.Solves(thy, got, l) {
			t.Fatal(seed, "not solved\n"+pairsText(l)+instText(got))
		}
	}
	if good < 3000 || typed < 100 {
		t.Error(good, typed)
	}
}

func TestUnifiersByTheWord(t *testing.T) {
	thy := theories()[1]
	good, several, flex := 0, 0, 0
	for seed := range int64(4000) {
		g := newGrower(seed)
		g.patterns = seed%5 == 0
		if seed%2 == 0 {
			g.loosened()
		}
		l := g.pairs()
		depth := g.pick(9)
		want, more := naiveAll(thy, l, depth, 8)
		if gaveUp {
			continue
		}
		got, is, e := unify.First(thy, l, depth, 8)
		if e != api.OK || len(got) != len(want) || is != more {
			t.Fatal(seed, depth, "\n"+pairsText(l), e, len(got), len(want), is, more)
		}
		for i := range got {
			if instText(got[i].Inst) != instText(want[i].Inst) || pairsText(got[i].Flex) != pairsText(want[i].Flex) {
				t.Fatal(seed, i, "\n"+pairsText(l), "\n"+instText(got[i].Inst)+pairsText(got[i].Flex), "\n"+instText(want[i].Inst)+pairsText(want[i].Flex))
			}
			if len(got[i].Flex) > 0 {
				flex++
			}
			c, e := unify.Close(thy, got[i])
			if e != api.OK || !pattern.Solves(thy, c, l) {
				t.Fatal(seed, i, e, "\n"+pairsText(l)+instText(got[i].Inst)+pairsText(got[i].Flex)+instText(c))
			}
		}
		if len(got) > 0 {
			good++
		}
		if len(got) > 1 {
			several++
		}
	}
	if good < 800 || several < 100 || flex < 50 {
		t.Error(good, several, flex)
	}
}

// flexible returns a term whose head is one of few variables, which may be of another type each time.
func (g *grower) flexible() api.Term {
	around := []api.Type{g.typ(), g.typ()}[:g.pick(3)]
	head := api.Term{Op: api.Var, Name: []string{"F", "G", "H"}[g.pick(3)], Num: g.pick(2), Type: g.typ()}
	var args []api.Term
	for range g.pick(3) {
		t := g.typ()
		head.Type = fun(t, head.Type)
		args = append([]api.Term{g.term(t, around, 1)}, args...)
	}
	t := app(head, args[:g.pick(len(args)+1)]...)
	for _, a := range slices.Backward(around) {
		t = abs(a, t)
	}
	return t
}

// unifier returns any unifier whose terms are right ones. Some bind a variable twice, or have a rigid side.
func (g *grower) unifier() unify.Unifier {
	var u unify.Unifier
	for range g.pick(3) {
		u.Inst.Terms = append(u.Inst.Terms, api.TermBind{Name: []string{"F", "x"}[g.pick(2)], Index: g.pick(3), To: g.flexible()})
	}
	for range g.pick(4) {
		u.Flex = append(u.Flex, pattern.Pair{A: g.flexible(), B: g.flexible()})
	}
	if len(u.Flex) > 0 && g.pick(10) == 0 {
		u.Flex[g.pick(len(u.Flex))].B = constant("nil", con("list", con("nat")))
	}
	return u
}

// headOf returns the head of a term behind its abstractions.
func headOf(t api.Term) api.Term {
	for t.Op == api.Abs {
		t = t.Kids[0]
	}
	h, _ := term.Spine(t)
	return h
}

// naiveClose closes a unifier whose terms are right ones. It also tells whether a head stands at several types.
func naiveClose(u unify.Unifier) (i api.Inst, several bool, e api.Errno) {
	sides := pattern.Terms(u.Flex)
	next := 0
	for _, t := range sides {
		next = max(next, term.MaxIndex(t)+1)
	}
	for _, b := range u.Inst.Terms {
		next = max(next, term.MaxIndex(b.To)+1)
	}
	first, of := map[string]api.Type{}, map[string]api.Term{}
	for _, t := range sides {
		h := headOf(t)
		if h.Op != api.Var {
			return api.Inst{}, false, api.ErrArgument
		}
		name := h.Name + "." + strconv.Itoa(h.Num)
		if typ, ok := first[name]; ok {
			several = several || !types.Equal(typ, h.Type)
			continue
		}
		first[name] = h.Type
		args, result := types.Strip(h.Type)
		to, ok := of[must(types.Text(result))]
		if !ok {
			to = api.Term{Op: api.Var, Name: "H", Num: next, Type: result}
			of[must(types.Text(result))] = to
			next++
		}
		for _, a := range slices.Backward(args) {
			to = abs(a, to)
		}
		i.Terms = append(i.Terms, api.TermBind{Name: h.Name, Index: h.Num, To: to})
	}
	i, e = pattern.Compose(u.Inst, i)
	return i, several, e
}

func TestCloseByTheWord(t *testing.T) {
	thy := theories()[1]
	seen := map[api.Errno]int{}
	good := 0
	for seed := range int64(4000) {
		g := newGrower(seed)
		if seed%2 == 0 {
			g.loosened()
		}
		u := g.unifier()
		for _, b := range u.Inst.Terms {
			must(term.Check(thy, b.To))
		}
		want, several, f := naiveClose(u)
		got, e := unify.Close(thy, u)
		if e != f || instText(got) != instText(want) {
			t.Fatal(seed, "\n"+instText(u.Inst)+pairsText(u.Flex), e, "\n"+instText(got), f, "\n"+instText(want))
		}
		seen[e]++
		if several && e == api.OK {
			good++
		}
	}
	if len(seen) != 3 || seen[api.OK] < 2000 || seen[api.ErrArgument] < 50 || seen[api.ErrDuplicate] < 50 || good < 500 {
		t.Error(seen, good)
	}
}
