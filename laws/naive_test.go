package laws

import (
	"slices"

	"triforium/api"
	"triforium/pattern"
	"triforium/term"
	"triforium/types"
	"triforium/unify"
)

// naive does what chapters 9 and 10 say word by word: each bind is put into all that there is. It leaves by a panic with a code.
type naive struct {
	thy        api.Theory
	inst       api.Inst
	next       int
	todo, left []open
	made       int // candidates
}

// open is a pair with the types of its loose bound variables.
type open struct {
	a, b  api.Term
	loose []api.Type
}

func (n naive) copied() naive {
	n.inst = api.Inst{Types: slices.Clone(n.inst.Types), Terms: slices.Clone(n.inst.Terms)}
	n.todo, n.left = slices.Clone(n.todo), slices.Clone(n.left)
	return n
}

// gaveUp says that a normal form was not to be had: what the chapters say can then not be told by this.
var gaveUp bool

func normal(t api.Term) api.Term {
	r, e := term.Norm(t, 5000)
	if e != api.OK {
		gaveUp = true
		panic(api.ErrLarge)
	}
	return r
}

func newNaive(thy api.Theory, l []pattern.Pair) *naive {
	gaveUp = false
	n := naive{thy: thy}
	for _, t := range pattern.Terms(l) {
		n.next = max(n.next, term.MaxIndex(t)+1)
	}
	for _, p := range l {
		n.todo = append(n.todo, open{a: normal(p.A), b: normal(p.B)})
	}
	for i := range n.todo {
		n.unifyTypes(must(term.TypeOf(n.todo[i].a)), must(term.TypeOf(n.todo[i].b)))
	}
	return &n
}

// each changes all terms that there are.
func (n *naive) each(f func(api.Term) api.Term) {
	for i := range n.inst.Terms {
		n.inst.Terms[i].To = f(n.inst.Terms[i].To)
	}
	for _, l := range [][]open{n.todo, n.left} {
		for i := range l {
			l[i].a, l[i].b = f(l[i].a), f(l[i].b)
		}
	}
}

func (n *naive) unifyTypes(a, b api.Type) {
	first := max(types.MaxIndex(a), types.MaxIndex(b)) + 1
	l, e := types.Unify(n.thy, a, b)
	if e != api.OK {
		panic(api.ErrFail)
	}
	greatest := n.next - 1
	moved := func(i int) int {
		if i < first {
			return i
		}
		greatest = max(greatest, i-first+n.next)
		return i - first + n.next
	}
	for i := range l {
		l[i].Index = moved(l[i].Index)
		for u := range types.Nodes(&l[i].To) {
			if u.Op == api.TVar {
				u.Index = moved(u.Index)
			}
		}
	}
	n.next = greatest + 1
	for i := range n.inst.Types {
		n.inst.Types[i].To = types.Apply(l, n.inst.Types[i].To)
	}
	n.inst.Types = append(n.inst.Types, l...)
	n.each(func(t api.Term) api.Term { return term.Apply(api.Inst{Types: l}, t) })
	for _, all := range [][]open{n.todo, n.left} {
		for k := range all {
			var loose []api.Type
			for _, u := range all[k].loose {
				loose = append(loose, types.Apply(l, u))
			}
			all[k].loose = loose
		}
	}
}

func (n *naive) bind(v, to api.Term) {
	b := api.TermBind{Name: v.Name, Index: v.Num, To: to}
	n.each(func(t api.Term) api.Term { return normal(term.Apply(api.Inst{Terms: []api.TermBind{b}}, t)) })
	n.inst.Terms = append(n.inst.Terms, b)
	for _, b := range n.inst.Terms {
		if nodes, depth := term.Size(b.To); nodes > api.MaxTerm || depth > api.MaxDepth {
			panic(api.ErrLarge)
		}
	}
}

func (n *naive) fresh(args []api.Type, to api.Type) api.Term {
	for i := len(args) - 1; i >= 0; i-- {
		to = fun(args[i], to)
	}
	n.next++
	return api.Term{Op: api.Var, Name: "H", Num: n.next - 1, Type: to}
}

func (n *naive) abstract(args []api.Type, t api.Term) api.Term {
	for i := len(args) - 1; i >= 0; i-- {
		t = abs(args[i], t)
	}
	return t
}

// apply returns a term applied to the variables at some places among those of abstractions over so many types.
func (n *naive) apply(h api.Term, of int, at []int) api.Term {
	for _, i := range at {
		h = app(h, bound(of-1-i))
	}
	return h
}

func pick[T any](l []T, at []int) []T {
	var r []T
	for _, i := range at {
		r = append(r, l[i])
	}
	return r
}

// flexible returns the Bounds to which a variable is applied.
func flexible(t api.Term) (head api.Term, x []int, isVar, simple bool) {
	head, args := term.Spine(t)
	simple = true
	for _, a := range args {
		if a.Op != api.Bound || slices.Contains(x, a.Num) {
			simple = false
		}
		x = append(x, a.Num)
	}
	return head, x, head.Op == api.Var, head.Op == api.Var && simple
}

// flexFlex is rules 2 and 3; it reports whether something was bound.
func (n *naive) flexFlex(f api.Term, x []int, g api.Term, y []int) bool {
	args, _ := types.Strip(f.Type)
	result := f.Type
	for range x {
		result = result.Args[1]
	}
	more, _ := types.Strip(g.Type)
	args, more = args[:len(x)], more[:len(y)]
	var inF, inG []int
	if f.Name == g.Name && f.Num == g.Num {
		if slices.Equal(x, y) {
			return false
		}
		for i := range x {
			if x[i] == y[i] {
				inF = append(inF, i)
			}
		}
		n.bind(f, n.abstract(args, n.apply(n.fresh(pick(args, inF), result), len(x), inF)))
		return true
	}
	for i := range x {
		if j := slices.Index(y, x[i]); j >= 0 {
			inF, inG = append(inF, i), append(inG, j)
		}
	}
	h := n.fresh(pick(args, inF), result)
	n.bind(f, n.abstract(args, n.apply(h, len(x), inF)))
	n.bind(g, n.abstract(more, n.apply(h, len(y), inG)))
	return true
}

// flexRigid is rule 4. The pair stands first among what is to be done, where binds reach it.
func (n *naive) flexRigid(turned bool) {
	side := func() (api.Term, api.Term) {
		if turned {
			return n.todo[0].b, n.todo[0].a
		}
		return n.todo[0].a, n.todo[0].b
	}
	v, t := side()
	f, x, _, _ := flexible(v)
	for s := range term.Nodes(&t) {
		if s.Op == api.Var && s.Name == f.Name && s.Num == f.Num {
			panic(api.ErrFail)
		}
	}
	for n.pruneFirst(t, 0, x) {
		_, t = side()
	}
	args, _ := types.Strip(f.Type)
	n.todo = n.todo[1:]
	n.bind(f, n.abstract(args[:len(x)], rename(t, 0, x)))
}

// rename returns the body of abstractions over x.
func rename(t api.Term, around int, x []int) api.Term {
	if t.Op == api.Bound && t.Num >= around {
		i := slices.Index(x, t.Num-around)
		if i < 0 {
			panic(api.ErrFail)
		}
		return bound(len(x) - 1 - i + around)
	}
	t.Kids = slices.Clone(t.Kids)
	for i := range t.Kids {
		inner := around
		if t.Op == api.Abs {
			inner++
		}
		t.Kids[i] = rename(t.Kids[i], inner, x)
	}
	return t
}

// pruneFirst binds the first variable with an argument that is loose and not in x.
func (n *naive) pruneFirst(t api.Term, around int, x []int) bool {
	head, args := term.Spine(t)
	if head.Op == api.Var {
		var kept []int
		for i, a := range args {
			if a.Num < around || slices.Contains(x, a.Num-around) {
				kept = append(kept, i)
			}
		}
		if len(kept) == len(args) {
			return false
		}
		all, _ := types.Strip(head.Type)
		result := head.Type
		for range args {
			result = result.Args[1]
		}
		all = all[:len(args)]
		n.bind(head, n.abstract(all, n.apply(n.fresh(pick(all, kept), result), len(args), kept)))
		return true
	}
	if head.Op == api.Abs {
		return n.pruneFirst(head.Kids[0], around+1, x)
	}
	return slices.ContainsFunc(args, func(a api.Term) bool { return n.pruneFirst(a, around, x) })
}

// take does what chapters 9 and 10 have in common with the first pair, and reports whether it was left.
func (n *naive) take() {
	p := n.todo[0]
	if p.a.Op == api.Abs || p.b.Op == api.Abs {
		body := func(t api.Term) api.Term {
			if t.Op == api.Abs {
				return t.Kids[0]
			}
			return app(term.Lift(t, 1), bound(0))
		}
		u := p.a.Type
		if p.a.Op != api.Abs {
			u = p.b.Type
		}
		n.todo[0] = open{body(p.a), body(p.b), append(slices.Clone(p.loose), u)}
		return
	}
	f, x, flexA, simpleA := flexible(p.a)
	g, y, flexB, simpleB := flexible(p.b)
	bound := false
	switch {
	case !flexA && !flexB:
		n.heads(p, f, g)
		return
	case simpleA && simpleB:
		n.todo = n.todo[1:]
		bound = n.flexFlex(f, x, g, y)
	case simpleA && !flexB && pattern.Is(p.b):
		n.flexRigid(false)
		bound = true
	case simpleB && !flexA && pattern.Is(p.a):
		n.flexRigid(true)
		bound = true
	default:
		n.todo = n.todo[1:]
		n.left = append(n.left, p)
	}
	if bound {
		n.todo, n.left = slices.Concat(n.left, n.todo), nil
	}
}

// heads is rule 5.
func (n *naive) heads(p open, f, g api.Term) {
	_, l := term.Spine(p.a)
	_, m := term.Spine(p.b)
	if f.Op != g.Op || f.Name != g.Name || f.Num != g.Num || len(l) != len(m) {
		panic(api.ErrFail)
	}
	var parts []open
	for i := range l {
		parts = append(parts, open{l[i], m[i], slices.Clone(p.loose)})
	}
	n.todo = slices.Concat(parts, n.todo[1:])
	if f.Op == api.Const {
		n.unifyTypes(f.Type, g.Type)
	}
}

// result returns the binds of type variables, and those of the variables of pairs.
func (n *naive) result(l []pattern.Pair) api.Inst {
	i := api.Inst{Types: n.inst.Types}
	for _, t := range pattern.Terms(l) {
		for _, v := range term.Vars(t) {
			same := func(b api.TermBind) bool { return b.Name == v.Name && b.Index == v.Num }
			if k := slices.IndexFunc(n.inst.Terms, same); k >= 0 && !slices.ContainsFunc(i.Terms, same) {
				i.Terms = append(i.Terms, n.inst.Terms[k])
			}
		}
	}
	return sorted(i)
}

// caught returns the code with which a function was left.
func caught(f func()) (e api.Errno) {
	defer func() {
		if x := recover(); x != nil {
			e = x.(api.Errno)
		}
	}()
	f()
	return api.OK
}

// naiveUnify is pattern.Unify of pairs of patterns.
func naiveUnify(thy api.Theory, l []pattern.Pair) (i api.Inst, e api.Errno) {
	e = caught(func() {
		n := newNaive(thy, l)
		for len(n.todo) > 0 {
			n.take()
		}
		i = n.result(l)
	})
	return i, e
}

// simplifyAll simplifies what is to be done; false, if the state fails.
func (n *naive) simplifyAll() bool {
	n.left = nil
	return api.OK == caught(func() {
		for len(n.todo) > 0 {
			if len(n.todo)+len(n.left) > unify.MaxPairs {
				panic(api.ErrFail)
			}
			n.take()
		}
	})
}

// naiveAll is unify.First.
func naiveAll(thy api.Theory, l []pattern.Pair, depth, most int) (all []unify.Unifier, more bool) {
	var n *naive
	if caught(func() { n = newNaive(thy, l) }) != api.OK {
		return nil, false
	}
	made := 0
	n.search(l, depth, &made, func(u unify.Unifier) bool {
		more = len(all) == most
		if !more {
			all = append(all, u)
		}
		return !more
	})
	return all, more
}

func (n *naive) search(l []pattern.Pair, depth int, made *int, found func(unify.Unifier) bool) bool {
	if !n.simplifyAll() {
		return true
	}
	at := slices.IndexFunc(n.left, func(p open) bool {
		_, _, f, _ := flexible(p.a)
		_, _, g, _ := flexible(p.b)
		return !f || !g
	})
	if at < 0 {
		u := unify.Unifier{Inst: n.result(l)}
		for _, p := range n.left {
			u.Flex = append(u.Flex, pattern.Pair{A: n.abstract(p.loose, p.a), B: n.abstract(p.loose, p.b)})
		}
		return found(u)
	}
	if depth == 0 {
		return true
	}
	for _, c := range n.candidates(n.left[at]) {
		m := n.copied()
		m.todo, m.left = m.left, nil
		if f := c(&m); f != nil {
			if *made == 3000 {
				return false
			}
			*made++
			if caught(f) == api.OK && !m.search(l, depth-1, made, found) {
				return false
			}
		}
	}
	return true
}

// candidates returns what makes the binds of each candidate, or nil, if it is none.
func (n *naive) candidates(p open) []func(m *naive) func() {
	v, rigid := p.a, p.b
	if _, _, isVar, _ := flexible(v); !isVar {
		v, rigid = rigid, v
	}
	f, at := term.Spine(v)
	c, args := term.Spine(rigid)
	around, _ := types.Strip(f.Type)
	around = around[:len(at)]
	var l []func(m *naive) func()
	if c.Op != api.Bound {
		wanted, _ := types.Strip(c.Type)
		l = append(l, func(m *naive) func() {
			return func() { m.bind(f, m.abstract(around, m.heap(c, around, wanted[:len(args)]))) }
		})
	}
	for i := range at {
		l = append(l, func(m *naive) func() {
			result := f.Type
			for range at {
				result = result.Args[1]
			}
			mine, _ := types.Strip(around[i])
			its, _ := types.Strip(result)
			k := len(mine) - len(its)
			if k < 0 {
				return nil
			}
			rest := around[i]
			for range k {
				rest = rest.Args[1]
			}
			was := len(m.inst.Types)
			if caught(func() { m.unifyTypes(rest, result) }) != api.OK {
				return nil
			}
			binds := api.Inst{Types: m.inst.Types[was:]}
			var now, wanted []api.Type
			for _, u := range around {
				now = append(now, types.Apply(binds.Types, u))
			}
			for _, u := range mine[:k] {
				wanted = append(wanted, types.Apply(binds.Types, u))
			}
			return func() { m.bind(term.Apply(binds, f), m.abstract(now, m.heap(bound(len(at)-1-i), now, wanted))) }
		})
	}
	return l
}

// heap returns a head applied to new variables, which are applied to all variables around.
func (n *naive) heap(head api.Term, around, wanted []api.Type) api.Term {
	var all []int
	for i := range around {
		all = append(all, i)
	}
	for _, w := range wanted {
		head = app(head, n.apply(n.fresh(around, w), len(around), all))
	}
	return head
}

// sorted returns an instantiation with its binds by names and indices.
func sorted(i api.Inst) api.Inst {
	slices.SortFunc(i.Types, func(a, b api.TypeBind) int {
		if a.Name == b.Name {
			return a.Index - b.Index
		}
		return map[bool]int{true: -1, false: 1}[a.Name < b.Name]
	})
	slices.SortFunc(i.Terms, func(a, b api.TermBind) int {
		if a.Name == b.Name {
			return a.Index - b.Index
		}
		return map[bool]int{true: -1, false: 1}[a.Name < b.Name]
	})
	return i
}
