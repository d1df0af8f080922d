package unify

import (
	"iter"
	"slices"

	"triforium/api"
	"triforium/binds"
	"triforium/pattern"
)

// pair is two terms of one type in a search.
type pair struct {
	a, b  api.Term
	loose []api.Type // the types of the bound variables that are loose in them, the outermost one first
}

// all yields the unifiers, up to a depth.
func (q *question) all(depth int) iter.Seq[Unifier] {
	return func(yield func(Unifier) bool) {
		s, todo, ok := q.begin()
		if !ok {
			return
		}
		r := search{question: q, yield: yield}
		r.from(s, todo, depth)
	}
}

// begin returns the state and the pairs from which a search starts; false, if types fail.
func (q *question) begin() (s binds.State, todo []pair, ok bool) {
	s = q.state.Copy()
	ok = try(func() {
		for i := 0; i < len(q.typed); i += 2 {
			s.UnifyTypes(q.typed[i], q.typed[i+1])
			todo = append(todo, pair{a: q.normal[i], b: q.normal[i+1]})
		}
	})
	return s, todo, ok
}

// simplified returns the state and the pairs that are left at the beginning of a search; false, if they fail.
func (q *question) simplified() (binds.State, []pair, bool) {
	s, todo, ok := q.begin()
	if !ok {
		return s, nil, false
	}
	left, ok := simplify(&s, todo)
	return s, left, ok
}

// try reports whether a function returns: a state fails by a panic.
func try(f func()) (ok bool) {
	defer func() {
		if recover() != nil {
			ok = false
		}
	}()
	f()
	return true
}

// search is a search for unifiers.
type search struct {
	*question
	yield      func(Unifier) bool
	candidates int // how many were made
}

// from goes on from a state with pairs; false, if the search ends.
func (r *search) from(s binds.State, todo []pair, depth int) bool {
	left, ok := simplify(&s, todo)
	if !ok {
		return true
	}
	i := slices.IndexFunc(left, func(p pair) bool { return !isFlexible(&p.a) || !isFlexible(&p.b) })
	if i < 0 {
		u, ok := r.unifier(&s, left)
		return !ok || r.yield(u)
	}
	if depth == 0 {
		return true
	}
	for c := range candidates(&s, left[i]) {
		if r.candidates == maxCandidates {
			return false
		}
		r.candidates++
		if try(func() { c.bind(&c.state) }) && !r.from(c.state, left, depth-1) {
			return false
		}
	}
	return true
}

// isFlexible reports whether the head of a term is a variable.
func isFlexible(t *api.Term) bool {
	for t.Op == api.App {
		t = &t.Kids[0]
	}
	return t.Op == api.Var
}

// unifier returns what a search has found; false, if it is too large.
func (q *question) unifier(s *binds.State, left []pair) (u Unifier, ok bool) {
	ok = try(func() {
		u.Inst = s.Inst(q.terms)
		for _, p := range left {
			u.Flex = append(u.Flex, pattern.Pair{A: closed(s, p.a, p.loose), B: closed(s, p.b, p.loose)})
		}
	})
	if !ok {
		return Unifier{}, false
	}
	return u, true
}

// closed returns one side of a pair behind abstractions over its loose variables.
func closed(s *binds.State, t api.Term, loose []api.Type) api.Term {
	return s.Written(binds.Abstracted(loose, s.Normal(t, api.MaxTerm)))
}

// candidate is a state of its own, and what binds the head of the flexible side of a pair in it.
type candidate struct {
	state binds.State
	bind  func(*binds.State)
}

// candidates yields the candidates for a pair of a flexible and a rigid term, in order.
func candidates(s *binds.State, p pair) iter.Seq[candidate] {
	flexible, rigid := s.Spine(p.a), s.Spine(p.b)
	if flexible.Head.Op != api.Var {
		flexible, rigid = rigid, flexible
	}
	return func(yield func(candidate) bool) {
		imitation := candidate{s.Copy(), func(n *binds.State) { imitate(n, flexible, rigid) }}
		if rigid.Head.Op != api.Bound && !yield(imitation) {
			return
		}
		for i := range flexible.Args {
			n := s.Copy()
			var around, wanted []api.Type
			possible := try(func() { around, wanted = projected(&n, flexible, i) })
			projection := candidate{n, func(n *binds.State) {
				head := api.Term{Op: api.Bound, Num: len(around) - 1 - i}
				n.Bind(flexible.Head, functions(n, around, head, wanted))
			}}
			if possible && !yield(projection) {
				return
			}
		}
	}
}

// imitate binds the head of a flexible term to functions whose results have the head of a rigid one.
func imitate(s *binds.State, flexible, rigid binds.Spine) {
	around, _ := s.Arguments(flexible.Head.Type, len(flexible.Args))
	wanted, _ := s.Arguments(rigid.Head.Type, len(rigid.Args))
	s.Bind(flexible.Head, functions(s, around, rigid.Head, wanted))
}

// projected returns the types of the arguments of a flexible term, and of those that its argument with a number takes, if it then has the type of the term, with which that is unified. It leaves otherwise.
func projected(s *binds.State, flexible binds.Spine, i int) (around, wanted []api.Type) {
	around, result := s.Arguments(flexible.Head.Type, len(flexible.Args))
	all, _ := s.Arguments(around[i], -1)
	more, _ := s.Arguments(result, -1)
	if len(all) < len(more) {
		panic(api.ErrFail)
	}
	wanted, rest := s.Arguments(around[i], len(all)-len(more))
	s.UnifyTypes(rest, result)
	return around, wanted
}

// functions returns an abstraction over variables of some types, whose body is a head applied to new variables of the wanted types, each of which is applied to all those.
func functions(s *binds.State, around []api.Type, head api.Term, wanted []api.Type) api.Term {
	t := head
	for _, w := range wanted {
		h := s.Fresh(binds.Functions(around, w))
		for i := range around {
			h = api.Term{Op: api.App, Kids: []api.Term{h, {Op: api.Bound, Num: len(around) - 1 - i}}}
		}
		t = api.Term{Op: api.App, Kids: []api.Term{t, h}}
	}
	return binds.Abstracted(around, t)
}
