package model_test

import (
	"math/rand"
	"slices"
	"testing"

	"triforium/api"
	"triforium/model"
	"triforium/sort"
	"triforium/term"
	"triforium/types"
)

// naive evaluates terms in another way: functions are functions of Go, which are made tables only where they are asked for.
type naive struct {
	thy  api.Theory
	m    model.Model
	size map[string]int
}

// thing is an element of a type without functions, or a function.
type thing struct {
	n int
	f func(thing) thing
}

func (v *naive) sizeOf(t api.Type) int {
	s := must(types.Text(t))
	if n, ok := v.size[s]; ok {
		return n
	}
	n, e := model.Size(v.thy, v.m, t)
	if e != api.OK {
		n = -1
	}
	v.size[s] = n
	return n
}

// number returns the element that a thing is.
func (v *naive) number(t api.Type, x thing) int {
	if t.Name != "fun" {
		return x.n
	}
	if v.sizeOf(t) == 1 {
		return 0
	}
	n, m := 0, v.sizeOf(t.Args[1])
	for k := v.sizeOf(t.Args[0]) - 1; k >= 0; k-- {
		n = n*m + v.number(t.Args[1], x.f(v.thing(t.Args[0], k)))
	}
	return n
}

// thing returns what an element is.
func (v *naive) thing(t api.Type, n int) thing {
	if t.Name != "fun" {
		return thing{n: n}
	}
	return thing{f: func(x thing) thing {
		k, m := n, v.sizeOf(t.Args[1])
		for range v.number(t.Args[0], x) {
			k /= m
		}
		return v.thing(t.Args[1], k%m)
	}}
}

func of(f func(thing) thing) thing { return thing{f: f} }

func truth(b bool) thing {
	if b {
		return thing{n: 1}
	}
	return thing{}
}

// curried returns a thing that takes so many arguments.
func curried(n int, f func(l []thing) thing, l ...thing) thing {
	if n == len(l) {
		return f(l)
	}
	return of(func(x thing) thing { return curried(n, f, append(slices.Clone(l), x)...) })
}

// every calls a function with all elements of a type, as long as it returns true.
func (v *naive) every(t api.Type, f func(x thing) bool) bool {
	for n := range v.sizeOf(t) {
		if !f(v.thing(t, n)) {
			return false
		}
	}
	return true
}

func (v *naive) constant(name string, t api.Type) thing {
	args, result := types.Strip(t)
	switch name {
	case "True":
		return thing{n: 1}
	case "False":
		return thing{}
	case "Trueprop", "protect":
		return of(func(x thing) thing { return x })
	case "Not":
		return of(func(x thing) thing { return truth(x.n == 0) })
	case "And":
		return curried(2, func(l []thing) thing { return truth(l[0].n == 1 && l[1].n == 1) })
	case "Or":
		return curried(2, func(l []thing) thing { return truth(l[0].n == 1 || l[1].n == 1) })
	case "imp", "Implies":
		return curried(2, func(l []thing) thing { return truth(l[0].n == 0 || l[1].n == 1) })
	case "eq", "Equal":
		return curried(2, func(l []thing) thing { return truth(v.number(args[0], l[0]) == v.number(args[0], l[1])) })
	case "all", "All":
		return of(func(p thing) thing {
			return truth(v.every(args[0].Args[0], func(x thing) bool { return p.f(x).n == 1 }))
		})
	case "Ex":
		return of(func(p thing) thing {
			return truth(!v.every(args[0].Args[0], func(x thing) bool { return p.f(x).n == 0 }))
		})
	case "The":
		return of(func(p thing) thing {
			var l []thing
			v.every(args[0].Args[0], func(x thing) bool {
				if p.f(x).n == 1 {
					l = append(l, x)
				}
				return true
			})
			if len(l) == 1 {
				return l[0]
			}
			return v.thing(args[0].Args[0], 0)
		})
	case "If":
		return curried(3, func(l []thing) thing {
			if l[0].n == 1 {
				return l[1]
			}
			return l[2]
		})
	}
	return v.open(name, t, args, result)
}

// open returns what a constant of the theory logic means that is not known.
func (v *naive) open(name string, t api.Type, args []api.Type, result api.Type) thing {
	fields := func(of api.Type, x thing) []thing {
		_, l, e := model.Element(v.thy, v.m, of, x.n)
		if e != api.OK {
			panic(e)
		}
		var r []thing
		for i, n := range l {
			r = append(r, v.thing(of.Args[i], n))
		}
		return r
	}
	switch name {
	case "k", "f":
		i := slices.IndexFunc(v.m.Meanings, func(m model.Meaning) bool { return m.Name == name })
		return v.thing(t, v.m.Meanings[i].Value)
	case "mk", "some", "none":
		last := result
		n := map[string]int{"mk": 2, "some": 1, "none": 0}[name]
		return curried(n, func(l []thing) thing {
			var numbers []int
			for i, x := range l {
				numbers = append(numbers, v.number(last.Args[i], x))
			}
			k := map[string]int{"some": 1}[name]
			return thing{n: must(model.Make(v.thy, v.m, last, k, numbers))}
		})
	case "fst":
		return of(func(x thing) thing { return fields(args[0], x)[0] })
	case "snd":
		return of(func(x thing) thing { return fields(args[0], x)[1] })
	case "split":
		return curried(2, func(l []thing) thing {
			x := fields(args[1], l[1])
			return l[0].f(x[0]).f(x[1])
		})
	case "get":
		return of(func(x thing) thing {
			if l := fields(args[0], x); len(l) > 0 {
				return l[0]
			}
			return v.thing(args[0].Args[0], 0)
		})
	case "case":
		return curried(3, func(l []thing) thing {
			if x := fields(args[2], l[2]); len(x) > 0 {
				return l[1].f(x[0])
			}
			return l[0]
		})
	}
	return v.defined(name, t)
}

// defined returns what a constant means that is defined, if not at this type, then at others.
func (v *naive) defined(name string, t api.Type) thing {
	for _, a := range v.thy.Axioms {
		left, right, _ := term.IsEq(a.Prop)
		if a.Kind != api.Defining || left.Name != name {
			continue
		}
		if l, e := types.Match(v.thy, left.Type, t, nil); e == api.OK {
			return v.eval(term.Apply(api.Inst{Types: l}, right), nil, nil)
		}
	}
	return v.thing(t, 0)
}

// eval evaluates a term without type variables.
func (v *naive) eval(t api.Term, values map[string]thing, around []thing) thing {
	switch t.Op {
	case api.Const:
		return v.constant(t.Name, t.Type)
	case api.Free, api.Var:
		return values[must(term.Text(t))]
	case api.Bound:
		return around[len(around)-1-t.Num]
	case api.Abs:
		return of(func(x thing) thing { return v.eval(t.Kids[0], values, append(slices.Clone(around), x)) })
	}
	return v.eval(t.Kids[0], values, around).f(v.eval(t.Kids[1], values, around))
}

// generator makes random terms of the theory logic.
type generator struct {
	*rand.Rand
	types   []api.Type
	algebra sort.Algebra
}

func newGenerator(seed int64) generator {
	g := generator{Rand: rand.New(rand.NewSource(seed)), algebra: must(sort.Open(logic()))}
	for _, s := range []string{"bool", "prop", "t", "u", "pair(t, bool)", "opt(t)", "fun(t, t)", "fun(t, bool)", "fun(bool, t)", "fun(u, bool)", "fun(t, fun(bool, bool))", "opt(bool)", "fun(fun(t, bool), bool)", "bool", "prop", "t"} {
		g.types = append(g.types, typ(s))
	}
	return g
}

func (g generator) typ() api.Type { return g.types[g.Intn(len(g.types))] }

// constants returns the constants of logic at types at which they give a type.
func (g generator) constants(thy api.Theory, t api.Type) []api.Term {
	var l []api.Term
	for _, c := range thy.Consts {
		if slices.Contains([]string{"loose", "dark"}, c.Name) {
			continue
		}
		args, result := types.Strip(c.Type)
		general := append(args, result)
		for from := range general {
			r := general[len(general)-1]
			for i := len(general) - 2; i >= from; i-- {
				r = types.Fun(general[i], r)
			}
			binds, e := types.MatchIn(g.algebra, r, t, nil)
			if e != api.OK {
				continue
			}
			for _, v := range types.Variables(c.Type) {
				if !slices.ContainsFunc(binds, func(b api.TypeBind) bool { return b.Name == v.Name }) {
					binds = append(binds, api.TypeBind{Name: v.Name, To: g.types[g.Intn(6)]})
				}
			}
			l = append(l, api.Term{Op: api.Const, Name: c.Name, Type: types.Apply(binds, c.Type)})
		}
	}
	return l
}

// term returns a random term of a type.
func (g generator) term(thy api.Theory, t api.Type, around []api.Type, depth int) api.Term {
	for i, u := range around {
		if types.Equal(u, t) && g.Intn(2) == 0 {
			return api.Term{Op: api.Bound, Num: len(around) - 1 - i}
		}
	}
	n := g.Intn(10)
	switch {
	case depth > 1 && t.Name == "fun" && n < 5:
		return api.Term{Op: api.Abs, Name: "x", Type: t.Args[0], Kids: []api.Term{g.term(thy, t.Args[1], append(slices.Clone(around), t.Args[0]), depth-1)}}
	case depth > 1 && n < 8:
		if l := g.constants(thy, t); len(l) > 0 {
			c := l[g.Intn(len(l))]
			for !types.Equal(must(term.TypeOf(closedOver(c, around))), t) {
				u := must(term.TypeOf(closedOver(c, around)))
				c = term.Apps(c, []api.Term{g.term(thy, u.Args[0], around, depth-1)})
			}
			return c
		}
	case depth > 1 && n == 8:
		u := g.typ()
		body := g.term(thy, t, append(slices.Clone(around), u), depth-1)
		return term.Apps(api.Term{Op: api.Abs, Name: "y", Type: u, Kids: []api.Term{body}}, []api.Term{g.term(thy, u, around, depth-1)})
	case depth > 1:
		u := g.typ()
		return term.Apps(g.term(thy, types.Fun(u, t), around, depth-1), []api.Term{g.term(thy, u, around, depth-1)})
	}
	names := map[string]string{"bool": "p", "prop": "P", "t": "x", "u": "z"}
	name, ok := names[t.Name]
	if !ok {
		name = "v" + string(rune('a'+len(must(types.Text(t)))%26)) + string(rune('a'+int(must(types.Text(t))[4])%26)) + string(rune('a'+int(must(types.Text(t))[len(must(types.Text(t)))-2])%26)) + string(rune('a'+len(t.Args[0].Args)))
	}
	if g.Intn(3) == 0 {
		return api.Term{Op: api.Var, Name: name, Num: g.Intn(2), Type: t}
	}
	return api.Term{Op: api.Free, Name: name, Type: t}
}

// closedOver puts variables in the place of loose bound variables, so that a term has a type.
func closedOver(t api.Term, around []api.Type) api.Term {
	for i := len(around) - 1; i >= 0; i-- {
		t = term.Put(t, api.Term{Op: api.Free, Name: "none", Type: around[i]})
	}
	return t
}

// assigned returns a random assignment for a term, and its values as things.
func (g generator) assigned(v *naive, t api.Term) (model.Assign, map[string]thing, bool) {
	var a model.Assign
	values := map[string]thing{}
	for _, x := range append(term.Frees(t), term.Vars(t)...) {
		n := v.sizeOf(x.Type)
		if n < 0 {
			return a, nil, false
		}
		k := g.Intn(n)
		index := -1
		if x.Op == api.Var {
			index = x.Num
		}
		a.Values = append(a.Values, value(x.Name, index, k))
		values[must(term.Text(x))] = v.thing(x.Type, k)
	}
	return a, values, true
}

// What Evaluate says is what a naive evaluation says.
func TestEvaluateIsRight(t *testing.T) {
	v := &naive{logic(), world(), map[string]int{}}
	g := newGenerator(1)
	done, with := 0, map[string]int{}
	for range 2400 {
		u := g.typ()
		x := g.term(v.thy, u, nil, 2+g.Intn(4))
		if _, e := term.Check(v.thy, x); e != api.OK {
			continue // two variables of one name
		}
		a, values, ok := g.assigned(v, x)
		if !ok {
			continue
		}
		n, e := model.Evaluate(v.thy, v.m, x, a)
		if e == api.ErrFuel || e == api.ErrLarge {
			continue
		}
		if want := v.number(u, v.eval(x, values, nil)); e != api.OK || n != want {
			t.Fatal(must(term.Text(x)), a, n, want, e)
		}
		done++
		for _, name := range constantsOf(x) {
			with[name]++
		}
	}
	for _, name := range append(model.Known(), "mk", "fst", "snd", "split", "none", "some", "case", "get", "k", "f", "twice", "xor", "over") {
		if with[name] < 8 {
			t.Error("too few terms with", name, with[name])
		}
	}
	if done < 1200 {
		t.Error("too few terms", done)
	}
}

func constantsOf(t api.Term) []string {
	var l []string
	if t.Op == api.Const {
		l = append(l, t.Name)
	}
	for _, k := range t.Kids {
		l = append(l, constantsOf(k)...)
	}
	return l
}

// everyStep returns what a term becomes by a step of Beta at each redex.
func everyStep(t api.Term) []api.Term {
	var l []api.Term
	if b, ok := term.Beta(t); ok {
		l = append(l, b)
	}
	for i := range t.Kids {
		for _, k := range everyStep(t.Kids[i]) {
			x := t
			x.Kids = slices.Clone(t.Kids)
			x.Kids[i] = k
			l = append(l, x)
		}
	}
	return l
}

// P8.3: steps of Beta, and Eta, keep the value.
func TestLawsOfSteps(t *testing.T) {
	v := &naive{logic(), world(), map[string]int{}}
	g := newGenerator(2)
	steps, etas := 0, 0
	for range 2400 {
		u := g.typ()
		x := g.term(v.thy, u, nil, 2+g.Intn(4))
		if _, e := term.Check(v.thy, x); e != api.OK {
			continue
		}
		a, _, ok := g.assigned(v, x)
		n, e := model.Evaluate(v.thy, v.m, x, a)
		if !ok || e != api.OK {
			continue
		}
		for _, y := range everyStep(x) {
			k, e := model.Evaluate(v.thy, v.m, y, a)
			if e != api.OK && e != api.ErrFuel && e != api.ErrLarge || e == api.OK && k != n {
				t.Fatal(must(term.Text(x)), must(term.Text(y)), n, k, e)
			}
			steps++
		}
		if u.Name == "fun" {
			wide := api.Term{Op: api.Abs, Name: "w", Type: u.Args[0], Kids: []api.Term{term.Apps(term.Lift(x, 1), []api.Term{{Op: api.Bound}})}}
			if k, e := model.Evaluate(v.thy, v.m, wide, a); e == api.OK && k != n {
				t.Fatal("Eta", must(term.Text(x)), n, k)
			}
			etas++
		}
	}
	if steps < 300 || etas < 200 {
		t.Error("too few", steps, etas)
	}
}

// P8.4: the value with a term for a variable is that with its value for the variable.
func TestLawsOfSubstitution(t *testing.T) {
	v := &naive{logic(), world(), map[string]int{}}
	g := newGenerator(3)
	done := 0
	for range 2400 {
		x := g.term(v.thy, g.typ(), nil, 2+g.Intn(3))
		vars := term.Vars(x)
		if _, e := term.Check(v.thy, x); e != api.OK || len(vars) == 0 {
			continue
		}
		y := vars[g.Intn(len(vars))]
		to := g.term(v.thy, y.Type, nil, 3)
		both := term.Apps(api.Term{Op: api.Abs, Type: y.Type, Kids: []api.Term{term.Lift(x, 1)}}, []api.Term{to}) // has the variables of both
		if _, e := term.Check(v.thy, both); e != api.OK {
			continue
		}
		a, _, ok := g.assigned(v, both)
		if !ok {
			continue
		}
		k, e := model.Evaluate(v.thy, v.m, to, a)
		put := term.Apply(api.Inst{Terms: []api.TermBind{{Name: y.Name, Index: y.Num, To: to}}}, x)
		n, f := model.Evaluate(v.thy, v.m, put, a)
		a.Values = append([]model.Value{value(y.Name, y.Num, k)}, a.Values...)
		m, h := model.Evaluate(v.thy, v.m, x, a)
		if e != api.OK || f != api.OK || h != api.OK {
			continue
		}
		if m != n {
			t.Fatal(must(term.Text(x)), must(term.Text(to)), m, n)
		}
		done++
	}
	if done < 200 {
		t.Error("too few", done)
	}
}

// P8.5: Make is the inverse of Element; Call gives elements, by which a function is determined.
func TestLawsOfElements(t *testing.T) {
	thy, m := logic(), world()
	for _, s := range []string{"t", "u", "pair(u, t)", "pair(u, pair(u, u))", "opt(u)", "opt(pair(t, opt(u)))", "pair(fun(t, u), opt(opt(t)))"} {
		size := must(model.Size(thy, m, typ(s)))
		for n := range size {
			k, fields, e := model.Element(thy, m, typ(s), n)
			if again, f := model.Make(thy, m, typ(s), k, fields); e != api.OK || f != api.OK || again != n {
				t.Fatal(s, n, k, fields, again)
			}
		}
	}
	for _, s := range [][2]string{{"t", "u"}, {"u", "t"}, {"fun(t, t)", "t"}, {"opt(t)", "u"}, {"bool", "opt(u)"}} {
		a, b := typ(s[0]), typ(s[1])
		seen := map[string]bool{}
		all := must(model.Size(thy, m, types.Fun(a, b)))
		for f := range all {
			key := ""
			for x := range must(model.Size(thy, m, a)) {
				y, e := model.Call(thy, m, a, b, f, x)
				if e != api.OK || y < 0 || y >= must(model.Size(thy, m, b)) {
					t.Fatal(s, f, x, y, e)
				}
				key += string(rune('a' + y))
			}
			seen[key] = true
		}
		if len(seen) != all {
			t.Error(s, len(seen), all)
		}
	}
}

// Holds is what Evaluate says for all assignments.
func TestHoldsIsRight(t *testing.T) {
	thy, m := logic(), world()
	m.Ground = []api.Type{typ("u"), typ("t")}
	g := newGenerator(4)
	done, no := 0, 0
	for range 800 {
		hyp, prop := g.term(thy, types.Prop(), nil, 2+g.Intn(2)), g.term(thy, types.Prop(), nil, 2+g.Intn(3))
		ok, a, e := model.Holds(thy, m, []api.Term{hyp}, prop)
		if e != api.OK {
			continue
		}
		want, wanted := true, model.Assign{}
		vars := distinct(append(append(term.Frees(hyp), term.Frees(prop)...), append(term.Vars(hyp), term.Vars(prop)...)...))
		var try func(i int, b model.Assign)
		try = func(i int, b model.Assign) {
			if !want {
				return
			}
			if i == len(vars) {
				p, q := must(model.Evaluate(thy, m, hyp, b)), must(model.Evaluate(thy, m, prop, b))
				if p == 1 && q == 0 {
					want, wanted = false, model.Assign{Values: slices.Clone(b.Values)}
				}
				return
			}
			for n := range must(model.Size(thy, m, vars[i].Type)) {
				index := -1
				if vars[i].Op == api.Var {
					index = vars[i].Num
				}
				try(i+1, model.Assign{Values: append(slices.Clone(b.Values), value(vars[i].Name, index, n))})
			}
		}
		cases := 1
		for _, x := range vars {
			cases *= must(model.Size(thy, m, x.Type))
		}
		if cases > 40 {
			continue
		}
		try(0, model.Assign{})
		if ok != want || !sameAssign(a, wanted) {
			t.Fatal(must(term.Text(hyp)), must(term.Text(prop)), ok, a, wanted)
		}
		done++
		if !ok {
			no++
		}
	}
	if done < 150 || no < 50 {
		t.Error("too few", done, no)
	}
}

// distinct returns variables, each once.
func distinct(l []api.Term) []api.Term {
	var r []api.Term
	for _, x := range l {
		if !slices.ContainsFunc(r, func(y api.Term) bool { return term.Equal(x, y) }) {
			r = append(r, x)
		}
	}
	return r
}

// P8.6: axioms hold in what Models returns, and no two of these are equal.
func TestLawsOfModels(t *testing.T) {
	l := must(model.Models(small(), 2, 1000))
	for i, m := range l {
		if ok, _, e := model.True(small(), m); !ok || e != api.OK {
			t.Error(i, e)
		}
		for k, other := range l[:i] {
			same := slices.Equal(m.Meanings, other.Meanings)
			for j := range m.Carriers {
				same = same && len(m.Carriers[j].Cases) == len(other.Carriers[j].Cases)
			}
			if same {
				t.Error("equal", i, k)
			}
		}
	}
}
