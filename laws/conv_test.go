package laws

import (
	"math/rand"
	"slices"
	"testing"

	"triforium/api"
	"triforium/checker"
	"triforium/conv"
	"triforium/kernel"
	"triforium/pattern"
	"triforium/term"
	"triforium/theory"
)

// convWorld is a theory with the type n, and constants a, b, f, g and h, which takes a function.
func convWorld() api.Theory {
	n := con("n")
	return must(theory.Extend(theory.Pure(), "C", api.Theory{
		Types:   []api.TypeDecl{{Name: "n"}},
		Consts:  []api.ConstDecl{{Name: "a", Type: n}, {Name: "b", Type: n}, {Name: "f", Type: fun(n, n)}, {Name: "g", Type: fun(n, fun(n, n))}, {Name: "h", Type: fun(fun(n, n), n)}},
		Oracles: []string{"trust"},
	}))
}

// conversions makes random terms, rules and expressions.
type conversions struct {
	*rand.Rand
	thy api.Theory
}

func (c conversions) con(name string, l ...api.Term) api.Term {
	typ, _ := theory.Const(c.thy, name)
	return app(constant(name, typ), l...)
}

// term returns a term of the type n below some abstractions.
func (c conversions) term(depth, around int) api.Term {
	if depth == 0 || c.Intn(6) == 0 {
		if around > 0 && c.Intn(2) == 0 {
			return bound(c.Intn(around))
		}
		return []api.Term{c.con("a"), c.con("b"), free("u", con("n"))}[c.Intn(3)]
	}
	switch c.Intn(7) {
	case 0, 1:
		return c.con("f", c.term(depth-1, around))
	case 2, 3:
		return c.con("g", c.term(depth-1, around), c.term(depth-1, around))
	case 4:
		return c.con("h", abs(con("n"), c.term(depth-1, around+1)))
	case 5:
		return c.con("h", abs(con("n"), c.con("f", bound(0))))
	}
	return app(abs(con("n"), c.term(depth-1, around+1)), c.term(depth-1, around))
}

// rules returns equations, some of which have hypotheses.
func (c conversions) rules() []kernel.Theorem {
	x, y := schematic("x", con("n")), schematic("y", con("n"))
	k := schematic("k", fun(con("n"), con("n")))
	all := [][2]api.Term{
		{c.con("f", x), x}, {c.con("g", x, y), c.con("g", y, x)}, {c.con("a"), c.con("b")}, {c.con("g", x, x), c.con("f", x)}, {c.con("f", c.con("f", x)), c.con("f", x)}, {c.con("h", k), app(k, c.con("a"))},
		{c.con("b"), c.con("b")}, {c.con("g", c.con("a"), x), x}, {c.con("h", abs(con("n"), x)), x}, {c.con("f", x), c.con("g", x, c.con("a"))},
	}
	var l []kernel.Theorem
	for range 4 {
		v := all[c.Intn(len(all))]
		prop := must(term.Eq(v[0], v[1]))
		if c.Intn(3) == 0 {
			l = append(l, must(kernel.Assume(c.thy, prop)))
		} else {
			l = append(l, must(kernel.Oracle(c.thy, "trust", prop)))
		}
	}
	return l
}

func (c conversions) expr(depth int) conv.Expr {
	if depth == 0 || c.Intn(4) == 0 {
		e := conv.Expr{Kind: []int{conv.All, conv.No, conv.Beta, conv.Eta, conv.Rule, conv.Rule, conv.Rule, conv.Rule, conv.Norm}[c.Intn(9)]}
		if e.Kind == conv.Rule {
			e.Num = c.Intn(4)
		}
		return e
	}
	e := conv.Expr{Kind: conv.Then + c.Intn(10), Kids: []conv.Expr{c.expr(depth - 1)}}
	if e.Kind <= conv.Else {
		e.Kids = append(e.Kids, c.expr(depth-1))
	}
	return e
}

// byWord converts terms as chapter 20 says it, without proofs. It is left by a panic with the error that ends a conversion.
type byWord struct {
	thy   api.Theory
	rules []kernel.Theorem
	left  int
	frees int
}

// converted is what a conversion makes of a term, with the hypotheses that are used.
type converted struct {
	t    api.Term
	hyps []api.Term
}

func (w *byWord) step() {
	if w.left == 0 {
		panic(api.ErrFuel)
	}
	w.left--
}

func wordNorm(t api.Term) api.Term {
	r, e := term.Norm(t, 1000)
	if e != api.OK {
		panic(e)
	}
	return r
}

func (w *byWord) eval(e conv.Expr, t api.Term) (converted, bool) {
	none := converted{}
	switch e.Kind {
	case conv.All:
		return converted{t: t}, true
	case conv.Beta:
		r, ok := term.Beta(t)
		if ok {
			w.step()
		}
		return converted{t: r}, ok
	case conv.Eta:
		if t.Op != api.Abs || t.Kids[0].Op != api.App || !term.Equal(t.Kids[0].Kids[1], bound(0)) {
			return none, false
		}
		f := t.Kids[0].Kids[0]
		if !term.Equal(term.Put(f, c0()), term.Lift(f, -1)) {
			return none, false
		}
		w.step()
		return converted{t: term.Lift(f, -1)}, true
	case conv.Rule:
		return w.rule(w.rules[e.Num], t)
	case conv.Norm:
		r := wordNorm(t)
		w.step()
		return converted{t: r}, true
	case conv.Then:
		return w.then(e.Kids[0], e.Kids[1], t)
	case conv.Else:
		if r, ok := w.eval(e.Kids[0], t); ok {
			return r, true
		}
		return w.eval(e.Kids[1], t)
	case conv.Repeat:
		return w.repeat(e.Kids[0], t), true
	case conv.Arg, conv.Fun, conv.Body:
		return w.part(e.Kind, e.Kids[0], t)
	case conv.Sub:
		return w.sub(e.Kids[0], t)
	case conv.Top:
		return w.top(e, t), true
	case conv.Bottom:
		return w.bottom(e, t), true
	case conv.Once:
		if r, ok := w.eval(e.Kids[0], t); ok {
			return r, true
		}
		for _, k := range []int{conv.Fun, conv.Arg, conv.Body} {
			if r, ok := w.part(k, e, t); ok {
				return r, true
			}
		}
	}
	return none, false
}

// c0 is a Free that stands nowhere.
func c0() api.Term { return free("nowhere", con("n")) }

func (w *byWord) then(a, b conv.Expr, t api.Term) (converted, bool) {
	r, ok := w.eval(a, t)
	if !ok {
		return converted{}, false
	}
	s, ok := w.eval(b, r.t)
	return converted{s.t, append(r.hyps, s.hyps...)}, ok
}

func (w *byWord) rule(th kernel.Theorem, t api.Term) (converted, bool) {
	n := max(0, term.MaxIndex(t)+1)
	l, r, _ := term.IsEq(term.Raise(th.Prop(), n))
	i, e := pattern.Match(w.thy, l, t)
	if e != api.OK {
		return converted{}, false
	}
	m := converted{t: wordNorm(term.Apply(i, r))}
	w.step()
	for _, h := range th.Hyps() {
		m.hyps = append(m.hyps, term.Apply(i, term.Raise(h, n)))
	}
	return m, true
}

func (w *byWord) repeat(e conv.Expr, t api.Term) converted {
	m := converted{t: t}
	for {
		r, ok := w.eval(e, m.t)
		if !ok {
			return m
		}
		same := term.Equal(r.t, m.t)
		m = converted{r.t, append(m.hyps, r.hyps...)}
		if same {
			return m
		}
	}
}

// part converts a direct part.
func (w *byWord) part(kind int, e conv.Expr, t api.Term) (converted, bool) {
	if t.Op == api.Abs && kind == conv.Body {
		w.frees++
		x := free("new"+string(rune('a'+w.frees%26))+string(rune('a'+w.frees/26%26))+string(rune('a'+w.frees/676)), t.Type)
		r, ok := w.eval(e, term.Put(t.Kids[0], x))
		if slices.ContainsFunc(r.hyps, func(h api.Term) bool {
			return slices.ContainsFunc(term.Frees(h), func(y api.Term) bool { return y.Name == x.Name })
		}) {
			return converted{}, false
		}
		return converted{abs(t.Type, term.Bind(x, r.t)), r.hyps}, ok
	}
	if t.Op != api.App || kind == conv.Body {
		return converted{}, false
	}
	i := 0
	if kind == conv.Arg {
		i = 1
	}
	r, ok := w.eval(e, t.Kids[i])
	kids := slices.Clone(t.Kids)
	kids[i] = r.t
	return converted{api.Term{Op: api.App, Kids: kids}, r.hyps}, ok
}

func (w *byWord) sub(e conv.Expr, t api.Term) (converted, bool) {
	m, any := converted{t: t}, false
	for _, k := range []int{conv.Fun, conv.Arg, conv.Body} {
		if r, ok := w.part(k, e, m.t); ok && (t.Op == api.Abs) == (k == conv.Body) {
			m, any = converted{r.t, append(m.hyps, r.hyps...)}, true
		}
	}
	return m, any
}

func (w *byWord) top(e conv.Expr, t api.Term) converted {
	m := w.repeat(e.Kids[0], t)
	r, ok := w.sub(e, m.t)
	if !ok {
		return m
	}
	changed := !term.Equal(r.t, m.t)
	m = converted{r.t, append(m.hyps, r.hyps...)}
	if !changed {
		return m
	}
	s, ok := w.eval(e.Kids[0], m.t)
	if !ok {
		return m
	}
	last := w.top(e, s.t)
	return converted{last.t, slices.Concat(m.hyps, s.hyps, last.hyps)}
}

func (w *byWord) bottom(e conv.Expr, t api.Term) converted {
	m, ok := w.sub(e, t)
	if !ok {
		m = converted{t: t}
	}
	s, ok := w.eval(e.Kids[0], m.t)
	if !ok {
		return m
	}
	if term.Equal(s.t, m.t) {
		return converted{s.t, append(m.hyps, s.hyps...)}
	}
	last := w.bottom(e, s.t)
	return converted{last.t, slices.Concat(m.hyps, s.hyps, last.hyps)}
}

// run evaluates an expression.
func (w *byWord) run(e conv.Expr, t api.Term) (m converted, code api.Errno) {
	defer func() {
		if x := recover(); x != nil {
			if c, ok := x.(api.Errno); ok {
				m, code = converted{}, c
				return
			}
			panic(x)
		}
	}()
	m, ok := w.eval(e, t)
	if !ok {
		return converted{}, api.ErrFail
	}
	return m, api.OK
}

// P20.1, P20.2: conversions make what the chapter says, with these hypotheses, and proofs that are taken.
func TestConversionsByTheWord(t *testing.T) {
	thy := convWorld()
	counts := map[api.Errno]int{}
	for seed := range int64(1500) {
		c := conversions{rand.New(rand.NewSource(seed)), thy}
		rules, e, x, fuel := c.rules(), c.expr(3), c.term(4, 0), []int{0, 1, 3, 8, 30, 60}[c.Intn(6)]
		w := byWord{thy: thy, rules: rules, left: fuel}
		want, code := w.run(e, x)
		th, got := conv.Run(thy, rules, e, x, fuel)
		counts[code]++
		if got != code {
			t.Fatal(seed, got, code, e, textOf(x))
		}
		if code != api.OK {
			continue
		}
		_, right, ok := term.IsEq(th.Prop())
		slices.SortFunc(want.hyps, term.Compare)
		want.hyps = slices.CompactFunc(want.hyps, term.Equal)
		if !ok || !term.Equal(right, want.t) || !slices.EqualFunc(th.Hyps(), want.hyps, term.Equal) {
			t.Fatal(seed, e, textOf(th.Prop()), textOf(want.t), len(th.Hyps()), len(want.hyps))
		}
		if s, e := checker.Check(thy, th.Proof()); e != api.OK || !checker.Same(s, stated(th)) {
			t.Fatal("the checker", seed, e)
		}
	}
	t.Log(counts)
	if counts[api.OK] < 500 || counts[api.ErrFuel] < 50 || counts[api.ErrFail] < 100 {
		t.Error(counts)
	}
}

// P20.3: All and No are neutral, Then and Else associative, a Repeat is its own Repeat.
func TestAlgebraOfConversions(t *testing.T) {
	thy := convWorld()
	of := func(kind int, l ...conv.Expr) conv.Expr { return conv.Expr{Kind: kind, Kids: l} }
	for seed := range int64(250) {
		g := conversions{rand.New(rand.NewSource(seed)), thy}
		rules, x := g.rules(), g.term(3, 0)
		a, b, c := g.expr(2), g.expr(2), g.expr(2)
		for i, l := range [][]conv.Expr{
			{of(conv.Then, a, of(conv.Then, b, c)), of(conv.Then, of(conv.Then, a, b), c)}, {of(conv.Else, a, of(conv.Else, b, c)), of(conv.Else, of(conv.Else, a, b), c)},
			{a, of(conv.Then, a, of(conv.All)), of(conv.Then, of(conv.All), a), of(conv.Else, a, of(conv.No)), of(conv.Else, of(conv.No), a)}, {of(conv.Repeat, a), of(conv.Repeat, of(conv.Repeat, a))},
			{of(conv.Norm), of(conv.Then, of(conv.Norm), of(conv.Norm))},
		} {
			first, e := conv.Run(thy, rules, l[0], x, 100)
			for _, other := range l[1:] {
				th, f := conv.Run(thy, rules, other, x, 100)
				if (e == api.ErrFuel || f == api.ErrFuel) && i >= 3 {
					continue
				}
				if e != f || e == api.OK && !term.Equal(th.Prop(), first.Prop()) {
					t.Fatal(seed, i, e, f)
				}
			}
		}
	}
}

// P20.4: behind Bottom there is no part to which the conversion applies, if it always makes another term.
func TestBottomIsNormal(t *testing.T) {
	thy := convWorld()
	for seed := range int64(150) {
		c := conversions{rand.New(rand.NewSource(seed)), thy}
		x, y := schematic("x", con("n")), schematic("y", con("n"))
		rules := []kernel.Theorem{must(kernel.Oracle(thy, "trust", must(term.Eq(c.con("f", x), x)))), must(kernel.Oracle(thy, "trust", must(term.Eq(c.con("g", x, y), x))))}
		e := conv.Expr{Kind: conv.Else, Kids: []conv.Expr{{Kind: conv.Rule}, {Kind: conv.Rule, Num: 1}}}
		th := must(conv.Run(thy, rules, conv.Expr{Kind: conv.Bottom, Kids: []conv.Expr{e}}, c.term(5, 0), 500))
		_, r, _ := term.IsEq(th.Prop())
		if _, code := conv.Run(thy, rules, conv.Expr{Kind: conv.Once, Kids: []conv.Expr{e}}, r, 5); code != api.ErrFail {
			t.Fatal(seed, textOf(r), code)
		}
	}
}
