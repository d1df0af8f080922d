package laws

import (
	"math/rand"
	"slices"
	"testing"

	"triforium/api"
	"triforium/conv"
	logic "triforium/hol"
	"triforium/kernel"
	"triforium/pattern"
	"triforium/simp"
	"triforium/term"
	"triforium/theory"
)

// simpWorld is a theory on HOL with what convWorld has, and the predicates p and q.
func simpWorld() api.Theory {
	n, b := con("n"), boolean()
	thy := must(theory.Merge("S", logic.HOL(), convWorld()))
	return must(theory.Extend(thy, "S", api.Theory{Consts: []api.ConstDecl{{Name: "p", Type: fun(n, b)}, {Name: "q", Type: fun(n, fun(n, b))}}}))
}

// simplifications makes random terms and sets.
type simplifications struct{ conversions }

// holds returns a random term of the type bool.
func (s simplifications) holds(depth, around int) api.Term {
	if depth == 0 || s.Intn(4) == 0 {
		switch s.Intn(3) {
		case 0:
			return s.con("p", s.term(2, around))
		case 1:
			return s.con("q", s.term(1, around), s.term(1, around))
		}
		return []api.Term{logic.True(), logic.False(), free("w", boolean())}[s.Intn(3)]
	}
	x, y := s.holds(depth-1, around), s.holds(depth-1, around)
	n := con("n")
	switch s.Intn(7) {
	case 0:
		return logic.Not(x)
	case 1, 2:
		return logic.And(x, y)
	case 3:
		return logic.Implies(x, y)
	case 4:
		return app(constant("Equal", fun(n, fun(n, boolean()))), s.term(2, around), s.term(2, around))
	case 5:
		return app(constant("All", fun(fun(n, boolean()), boolean())), abs(n, s.holds(depth-1, around+1)))
	}
	return app(constant("If", fun(boolean(), fun(boolean(), fun(boolean(), boolean())))), x, y, s.holds(depth-1, around))
}

// state returns premises and a conclusion as a theorem; terms of the type bool get Trueprop.
func (s simplifications) state(l ...api.Term) kernel.Theorem {
	return must(kernel.Oracle(s.thy, "trust", rule(l...)))
}

// set returns a random set.
func (s simplifications) set() simp.Set {
	x, y, z := schematic("x", con("n")), schematic("y", con("n")), schematic("z", con("n"))
	eq := func(a, b api.Term) api.Term { return must(term.Eq(a, b)) }
	f := func(a api.Term) api.Term { return s.con("f", a) }
	g := func(a, b api.Term) api.Term { return s.con("g", a, b) }
	p := func(a api.Term) api.Term { return s.con("p", a) }
	q := func(a, b api.Term) api.Term { return s.con("q", a, b) }
	all := []kernel.Theorem{
		s.state(eq(f(f(x)), f(x))), s.state(eq(g(x, y), g(y, x))), s.state(p(x), eq(f(x), x)), s.state(p(x), q(x, y), eq(g(x, y), x)), s.state(eq(p(f(x)), p(x))), s.state(eq(p(s.con("a")), logic.True())),
		s.state(eq(q(x, y), q(y, x))), s.state(eq(q(x, x), logic.True())), s.state(eq(s.con("b"), s.con("a"))), s.state(eq(s.con("h", abs(con("n"), x)), x)), s.state(q(y, x), eq(p(g(x, y)), p(y))), s.state(eq(g(x, g(y, z)), g(g(x, y), z))),
	}
	var r simp.Set
	if s.Intn(2) == 0 {
		r = must(simp.Standard(s.thy))
	}
	for _, th := range all {
		if s.Intn(3) == 0 {
			r.Rules = append(r.Rules, th)
		}
	}
	y2 := schematic("y", con("n"))
	y2.Num = 1
	if s.Intn(3) == 0 {
		r.Congs = append(r.Congs, s.state(rule(p(x), must(logic.Equal(y, y2))), must(logic.Equal(g(x, y), g(x, y2)))))
		r.Congs[len(r.Congs)-1] = must(simp.Cong(s.thy, r.Congs[len(r.Congs)-1]))
	}
	if s.Intn(3) == 0 {
		r.Procs = []simp.Proc{{Pattern: g(x, f(y)), Rules: []kernel.Theorem{s.state(eq(f(x), x))}, Expr: conv.Expr{Kind: conv.Bottom, Kids: []conv.Expr{{Kind: conv.Rule}}}}}
	}
	return r
}

// simpWord simplifies as chapter 21 says it, without proofs. It is left by a panic with an error.
type simpWord struct {
	thy   api.Theory
	set   simp.Set
	left  int
	names []string
}

func (w *simpWord) normal(t api.Term) api.Term {
	r, e := term.Norm(t, 1000)
	if e != api.OK {
		panic(e)
	}
	if nodes, depth := term.Size(r); nodes > simp.MaxSize || depth > 50 {
		panic(api.ErrLarge)
	}
	return r
}

func (w *simpWord) attempt() {
	if w.left == 0 {
		panic(api.ErrFuel)
	}
	w.left--
}

func (w *simpWord) simplify(t api.Term, more []kernel.Theorem, depth int) api.Term {
	u := w.parts(t, more, depth)
	if v := w.normal(u); !term.Equal(u, v) {
		return w.simplify(v, more, depth)
	}
	for _, th := range slices.Concat(more, w.set.Rules) {
		if v, ok := w.rewrite(th, u, more, depth); ok {
			return w.simplify(v, more, depth)
		}
	}
	n := max(0, term.MaxIndex(u)+1)
	for _, p := range w.set.Procs {
		if _, e := pattern.Match(w.thy, term.Raise(p.Pattern, n), u); e != api.OK {
			continue
		}
		w.attempt()
		th, e := conv.Run(w.thy, p.Rules, p.Expr, u, 100)
		if e != api.OK {
			continue
		}
		if _, v, _ := term.IsEq(th.Prop()); !term.Equal(v, u) {
			return w.simplify(w.normal(v), more, depth)
		}
	}
	return u
}

func (w *simpWord) rewrite(th kernel.Theorem, u api.Term, more []kernel.Theorem, depth int) (api.Term, bool) {
	n := max(0, term.MaxIndex(u)+1)
	conds, c := term.Strip(term.Raise(th.Prop(), n))
	l, r, _ := term.IsEq(c)
	i, e := pattern.Match(w.thy, l, u)
	if e != api.OK {
		return api.Term{}, false
	}
	v := w.normal(term.Apply(i, r))
	ordered, e := simp.Ordered(w.thy, th)
	if e != api.OK {
		panic(e)
	}
	if term.Equal(u, v) || ordered && term.Compare(v, u) >= 0 {
		return api.Term{}, false
	}
	w.attempt()
	for _, c := range conds {
		if depth == 0 || !term.Equal(w.simplify(w.normal(term.Apply(i, c)), more, depth-1), logic.Truth(logic.True())) {
			return api.Term{}, false
		}
	}
	return v, true
}

func (w *simpWord) parts(t api.Term, more []kernel.Theorem, depth int) api.Term {
	head, args := term.Spine(t)
	for _, th := range w.set.Congs {
		_, c := term.Strip(th.Prop())
		l, _, _ := term.IsEq(c)
		if h, xs := term.Spine(l); head.Op == api.Const && h.Name == head.Name && len(xs) == len(args) {
			if r, ok := w.congruence(th, t, more, depth); ok {
				return r
			}
			break
		}
	}
	switch t.Op {
	case api.App:
		f := w.simplify(t.Kids[0], more, depth)
		return app(f, w.simplify(t.Kids[1], more, depth))
	case api.Abs:
		x := free(term.Variant("x", w.names), t.Type)
		w.names = append(w.names, x.Name)
		body := w.simplify(term.Put(t.Kids[0], x), more, depth)
		w.names = w.names[:len(w.names)-1]
		return abs(t.Type, term.Bind(x, body))
	}
	return t
}

func (w *simpWord) congruence(th kernel.Theorem, t api.Term, more []kernel.Theorem, depth int) (api.Term, bool) {
	n := max(0, term.MaxIndex(t)+1)
	premises, c := term.Strip(term.Raise(th.Prop(), n))
	l, r, _ := term.IsEq(c)
	i, e := pattern.Match(w.thy, l, t)
	if e != api.OK {
		return api.Term{}, false
	}
	for _, d := range premises {
		conds, eq := term.Strip(d)
		x, y, _ := term.IsEq(eq)
		var assumed []kernel.Theorem
		for _, c := range conds {
			if c = w.normal(term.Apply(i, c)); len(term.Vars(c)) == 0 {
				assumed = append(assumed, must(simp.Extract(w.thy, must(kernel.Assume(w.thy, c))))...)
			}
		}
		i.Terms = append(i.Terms, api.TermBind{Name: y.Name, Index: y.Num, To: w.simplify(term.Apply(i, x), slices.Concat(assumed, more), depth)})
	}
	return term.Apply(i, r), true
}

// run simplifies a term.
func (w *simpWord) run(t api.Term, more []kernel.Theorem, depth int) (r api.Term, code api.Errno) {
	defer func() {
		if x := recover(); x != nil {
			if c, ok := x.(api.Errno); ok {
				r, code = api.Term{}, c
				return
			}
			panic(x)
		}
	}()
	return w.simplify(t, more, depth), api.OK
}

// P21.1, P21.2: Rewrite makes what the chapter says, with these errors, and proofs that are taken.
func TestSimplificationsByTheWord(t *testing.T) {
	thy := simpWorld()
	counts := map[api.Errno]int{}
	changed := 0
	for seed := range int64(120) {
		s := simplifications{conversions{rand.New(rand.NewSource(seed)), thy}}
		set, x := s.set(), s.holds(3, 0)
		depth, fuel := s.Intn(3), []int{0, 2, 10, 40, 100}[s.Intn(5)]
		var assumed, more []kernel.Theorem
		if s.Intn(3) == 0 {
			assumed = []kernel.Theorem{s.state(s.holds(1, 0))}
			more = must(simp.Extract(thy, assumed[0]))
		}
		w := simpWord{thy: thy, set: set, left: fuel}
		for _, y := range append(term.Frees(x), free("u", con("n")), free("w", boolean())) {
			w.names = append(w.names, y.Name)
		}
		want, code := w.run(x, more, depth)
		th, got := simp.Rewrite(thy, set, assumed, x, depth, fuel)
		if counts[code]++; got != code {
			t.Fatal(seed, got, code, textOf(x))
		}
		if code != api.OK {
			continue
		}
		if !term.Equal(th.Prop(), must(term.Eq(x, want))) || len(th.Hyps()) > 0 {
			t.Fatal(seed, textOf(th.Prop()), textOf(want))
		}
		taken(t, th)
		if !term.Equal(x, want) {
			changed++
		}
	}
	t.Log(counts, changed)
	if counts[api.OK] < 60 || changed < 40 || counts[api.ErrFuel] < 15 {
		t.Error(counts, changed)
	}
}
