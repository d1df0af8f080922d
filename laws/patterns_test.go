package laws

import (
	"slices"
	"testing"

	"triforium/api"
	"triforium/net"
	"triforium/pattern"
	"triforium/term"
	"triforium/types"
	"triforium/unify"
)

// patternPairs returns random pairs of patterns.
func patternPairs(seed int64) (*grower, []pattern.Pair) {
	g := newGrower(seed)
	if seed%2 == 0 {
		g.loosened()
	}
	return g, g.pairs()
}

// varsOf returns the variables of terms, each once.
func varsOf(l []api.Term) []api.Term {
	var r []api.Term
	for _, t := range l {
		for _, v := range term.Vars(t) {
			if !slices.ContainsFunc(r, func(w api.Term) bool { return term.Equal(v, w) }) {
				r = append(r, v)
			}
		}
	}
	return r
}

// Whatever solves pairs is an instance of what Unify finds: of a solution that is made narrower, and of that of other pairs.
func TestMostGeneral(t *testing.T) {
	thy := theories()[1]
	least, turned := 0, 0
	for seed := range int64(2500) {
		g, l := patternPairs(seed)
		general, e := pattern.Unify(thy, l)
		back := make([]pattern.Pair, len(l))
		for i, p := range l {
			back[len(l)-1-i] = pattern.Pair{A: p.B, B: p.A}
		}
		other, f := pattern.Unify(thy, back)
		if e != f {
			t.Fatal(seed, e, f)
		}
		if e != api.OK {
			continue
		}
		vars := varsOf(pattern.Terms(l))
		if len(vars) > 50 {
			continue
		}
		turned++
		for _, x := range [][2]api.Inst{{general, other}, {other, general}} {
			if ok, e := pattern.Least(thy, x[0], x[1], vars); !ok || e != api.OK {
				t.Fatal(seed, "exchanged", e)
			}
		}
		special := g.narrower(thy, general, l)
		if !pattern.Solves(thy, special, l) {
			continue
		}
		least++
		if ok, e := pattern.Least(thy, general, special, vars); !ok || e != api.OK {
			t.Fatal(seed, e, "\n"+pairsText(l)+instText(general)+instText(special))
		}
	}
	if least < 800 || turned < 1000 {
		t.Error(least, turned)
	}
}

// narrower returns an instance of an instantiation, which gives all variables of pairs other ones.
func (g *grower) narrower(thy api.Theory, i api.Inst, l []pattern.Pair) api.Inst {
	var all []api.Term
	for _, t := range pattern.Terms(l) {
		all = append(all, term.Apply(i, t))
	}
	var more api.Inst
	for _, t := range all {
		for _, v := range term.TypeVariables(t) {
			known := slices.ContainsFunc(more.Types, func(b api.TypeBind) bool { return b.Name == v.Name && b.Index == v.Index })
			if to := []api.Type{con("nat"), con("list", con("nat"))}[g.pick(2)]; v.Op == api.TVar && !known && g.pick(2) == 0 && types.HasSort(thy, to, v.Sort) {
				more.Types = append(more.Types, api.TypeBind{Name: v.Name, Index: v.Index, To: to})
			}
		}
	}
	for _, v := range varsOf(all) {
		if g.pick(3) > 0 {
			u := types.Apply(more.Types, v.Type)
			more.Terms = append(more.Terms, api.TermBind{Name: v.Name, Index: v.Num, To: g.term(u, nil, 2)})
		}
	}
	return must(pattern.Compose(i, more))
}

func TestLawsOfCompose(t *testing.T) {
	thy := theories()[1]
	for seed := range int64(400) {
		g, l := patternPairs(seed)
		a, e := pattern.Unify(thy, l)
		if e != api.OK {
			continue
		}
		b := g.narrower(thy, api.Inst{}, l)
		c := must(pattern.Compose(a, b))
		for _, x := range append(pattern.Terms(l), g.term(prop(), nil, 4)) {
			if !term.Equal(term.Apply(c, x), term.Apply(b, term.Apply(a, x))) {
				t.Fatal(seed, "Compose")
			}
		}
	}
}

func TestLawsOfMatch(t *testing.T) {
	thy := theories()[1]
	good := 0
	for seed := range int64(2500) {
		g := newGrower(seed)
		c := g.term(g.typ(), nil, 4)
		p := g.weaker(c, nil)
		if seed%5 == 0 {
			c = g.term(g.typ(), nil, 3)
		}
		i, e := pattern.Match(thy, p, c)
		if e == api.ErrFail {
			if u, f := pattern.Unify(thy, []pattern.Pair{{A: p, B: c}}); f == api.OK && term.MaxIndex(c) < 0 {
				t.Fatal(seed, "Unify succeeds\n"+pairsText([]pattern.Pair{{A: p, B: c}})+instText(u))
			}
			continue
		}
		if e != api.OK || !sameBehindEta(term.Apply(i, p), c) {
			t.Fatal(seed, e, "\n"+pairsText([]pattern.Pair{{A: p, B: c}})+instText(i))
		}
		good++
		// an instance of the pattern is matched, too
		j := g.narrower(thy, api.Inst{}, []pattern.Pair{{A: p, B: p}})
		d := term.Apply(j, p)
		if _, e := term.Check(thy, d); e == api.OK {
			if k, e := pattern.Match(thy, p, d); e != api.OK || !sameBehindEta(term.Apply(k, p), d) {
				t.Fatal(seed, e, "an instance")
			}
			n, _ := net.New[int]().Insert(p, 1)
			for _, x := range []api.Term{d, normal(d), term.Eta(d), term.Eta(normal(d))} {
				if len(slices.Collect(n.Match(x))) != 1 || len(slices.Collect(n.Unify(x))) != 1 {
					t.Fatal(seed, "the net misses an instance")
				}
			}
		}
	}
	if good < 1200 {
		t.Error(good)
	}
}

func sameBehindEta(a, b api.Term) bool {
	return term.Equal(term.Eta(normal(a)), term.Eta(normal(b)))
}

// For pairs of patterns there is just one unifier, which makes the terms the same, up to the names of new variables.
func TestPatternsHaveOneUnifier(t *testing.T) {
	thy := theories()[1]
	good := 0
	for seed := range int64(2000) {
		_, l := patternPairs(seed)
		i, e := pattern.Unify(thy, l)
		all, more, f := unify.First(thy, l, 3, 5)
		if f != api.OK || more || (e == api.OK) != (len(all) == 1) {
			t.Fatal(seed, e, f, len(all))
		}
		if e != api.OK {
			continue
		}
		good++
		vars := varsOf(pattern.Terms(l))
		if len(all[0].Flex) > 0 || len(vars) > 50 {
			t.Fatal(seed, "pairs are left")
		}
		for _, x := range [][2]api.Inst{{i, all[0].Inst}, {all[0].Inst, i}} {
			if ok, e := pattern.Least(thy, x[0], x[1], vars); !ok || e != api.OK {
				t.Fatal(seed, e)
			}
		}
		j, left, ok, e := unify.Simplify(thy, l)
		if !ok || e != api.OK || len(left) > 0 || instText(j) != instText(all[0].Inst) {
			t.Fatal(seed, "Simplify", e)
		}
	}
	if good < 1000 {
		t.Error(good)
	}
}

// A flexible term whose head is bound by a few imitations and projections, and what it becomes, have a unifier of which this is an instance.
func TestCompleteToTheDepth(t *testing.T) {
	thy := theories()[1]
	found, deep := 0, 0
	for seed := range int64(3000) {
		g := newGrower(seed)
		g.patterns = false
		args := g.all([]api.Type{con("nat"), fun(con("nat"), con("nat")), g.typ()}[:1+g.pick(3)], nil, 2)
		if slices.ContainsFunc(args, func(a api.Term) bool { return len(term.Vars(a)) > 0 }) {
			continue
		}
		var around []api.Type
		u := con("nat")
		for _, a := range slices.Backward(args) {
			v := must(term.TypeOf(a))
			around = append([]api.Type{v}, around...)
			u = fun(v, u)
		}
		steps := 0
		to := g.built(con("nat"), around, 3, &steps)
		for i := len(around) - 1; i >= 0; i-- {
			to = abs(around[i], to)
		}
		f := api.Term{Op: api.Var, Name: "F", Type: u}
		i := api.Inst{Terms: []api.TermBind{{Name: "F", To: to}}}
		l := []pattern.Pair{{A: app(f, args...), B: normal(term.Apply(i, app(f, args...)))}}
		all, more, e := unify.First(thy, l, steps, 1000)
		ok := false
		for _, u := range all {
			is, e := pattern.Least(thy, must(unify.Close(thy, u)), i, []api.Term{f})
			ok = ok || is && e == api.OK
		}
		if e != api.OK || !ok && !more && len(all) < 500 {
			t.Fatal(seed, steps, e, len(all), "\n"+pairsText(l)+instText(i))
		}
		if ok {
			found++
		}
		if ok && steps > 2 {
			deep++
		}
	}
	if found < 500 || deep < 50 {
		t.Error(found, deep)
	}
}

// built returns a term that is made of heads, each one of which is an imitation or a projection.
func (g *grower) built(t api.Type, around []api.Type, depth int, steps *int) api.Term {
	if t.Name == "fun" {
		return abs(t.Args[0], g.built(t.Args[1], append(slices.Clone(around), t.Args[0]), depth, steps))
	}
	*steps++
	for range 3 {
		i := g.pick(len(around))
		l, result := types.Strip(around[i])
		if types.Equal(result, t) && (depth > 0 || len(l) == 0) {
			return g.heads(bound(len(around)-1-i), l, around, depth-1, steps)
		}
	}
	if !types.Equal(t, con("nat")) || depth <= 0 || g.pick(4) == 0 {
		return api.Term{Op: api.Free, Name: "k" + shortName(t), Type: t}
	}
	return g.heads(constant("suc", fun(t, t)), []api.Type{t}, around, depth-1, steps)
}

func (g *grower) heads(h api.Term, l []api.Type, around []api.Type, depth int, steps *int) api.Term {
	for _, t := range l {
		h = app(h, g.built(t, around, depth, steps))
	}
	return h
}
