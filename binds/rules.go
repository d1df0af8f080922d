package binds

import (
	"iter"
	"slices"

	"triforium/api"
)

// mostNodes is how many nodes the normal form of a term may have that is looked at as a whole: what is larger is bound to no variable in any case.
const mostNodes = 1 << 20

// Bounds returns the numbers of the arguments of a spine, if they are different Bounds as the binds make them.
func (s *State) Bounds(p Spine) ([]int, bool) {
	var l []int
	for _, a := range p.Args {
		x := s.Spine(a)
		if x.Head.Op != api.Bound || len(x.Args) > 0 || slices.Contains(l, x.Head.Num) {
			return nil, false
		}
		l = append(l, x.Head.Num)
	}
	return l, true
}

// Flexible unifies two terms whose heads are variables, with Bounds as arguments; it reports whether it has bound a variable.
func (s *State) Flexible(f api.Term, x []int, g api.Term, y []int) bool {
	if keyOf(&f) == keyOf(&g) {
		return s.oneHead(f, x, y)
	}
	args, result := s.Arguments(f.Type, len(x))
	more, _ := s.Arguments(g.Type, len(y))
	var inF, inG []int // where the arguments of both stand
	for i, b := range x {
		if j := slices.Index(y, b); j >= 0 {
			inF, inG = append(inF, i), append(inG, j)
		}
	}
	h := s.Fresh(Functions(chosen(args, inF), result))
	s.Bind(f, selection(args, h, inF))
	s.Bind(g, selection(more, h, inG))
	return true
}

// oneHead unifies two terms with the same variable as their heads.
func (s *State) oneHead(f api.Term, x, y []int) bool {
	args, result := s.Arguments(f.Type, len(x))
	if len(x) != len(y) {
		panic(api.ErrFail)
	}
	var same []int
	for i := range x {
		if x[i] == y[i] {
			same = append(same, i)
		}
	}
	if len(same) == len(x) {
		return false
	}
	h := s.Fresh(Functions(chosen(args, same), result))
	s.Bind(f, selection(args, h, same))
	return true
}

// chosen returns the types at some places of a list.
func chosen(l []api.Type, places []int) []api.Type {
	var r []api.Type
	for _, i := range places {
		r = append(r, l[i])
	}
	return r
}

// selection returns an abstraction over variables of some types, whose body is a term applied to those at some places.
func selection(l []api.Type, h api.Term, places []int) api.Term {
	for _, i := range places {
		h = app(h, api.Term{Op: api.Bound, Num: len(l) - 1 - i})
	}
	return Abstracted(l, h)
}

// Abstracted returns a term behind abstractions over variables of some types, the first one outermost.
func Abstracted(l []api.Type, t api.Term) api.Term {
	for i := len(l) - 1; i >= 0; i-- {
		t = api.Term{Op: api.Abs, Name: "x", Type: l[i], Kids: []api.Term{t}}
	}
	return t
}

// place is a variable in a term, with its arguments and the number of abstractions around it.
type place struct {
	head   *api.Term
	args   []*api.Term
	around int
}

// places yields the variables of a term with their arguments, each one ahead of those in its arguments, from the left.
func places(t *api.Term) iter.Seq[place] {
	return func(yield func(place) bool) { walk(t, 0, yield) }
}

// walk yields variables until one is refused.
func walk(t *api.Term, around int, yield func(place) bool) bool {
	p := place{head: t, around: around}
	for p.head.Op == api.App {
		p.args = append(p.args, &p.head.Kids[1])
		p.head = &p.head.Kids[0]
	}
	slices.Reverse(p.args)
	if p.head.Op == api.Var && !yield(p) {
		return false
	}
	if p.head.Op == api.Abs && !walk(&p.head.Kids[0], around+1, yield) {
		return false
	}
	for _, a := range p.args {
		if !walk(a, around, yield) {
			return false
		}
	}
	return true
}

// Solve unifies a variable, applied to the Bounds x, with a pattern that has another head.
func (s *State) Solve(f api.Term, x []int, t api.Term) {
	t = s.Normal(t, mostNodes)
	if mentions(&t, keyOf(&f)) {
		panic(api.ErrFail)
	}
	for s.prune(&t, x) {
		t = s.Normal(t, mostNodes)
	}
	args, _ := s.Arguments(f.Type, len(x))
	body, ok := Renamed(&t, x, 0)
	if !ok {
		panic(api.ErrFail)
	}
	s.Bind(f, Abstracted(args, body))
}

// prune takes from the first variable of a term that has some of them its loose arguments that are not in x; it reports whether there was one.
func (s *State) prune(t *api.Term, x []int) bool {
	for p := range places(t) {
		var kept []int
		for i, a := range p.args {
			if a.Num < p.around || slices.Contains(x, a.Num-p.around) {
				kept = append(kept, i)
			}
		}
		if len(kept) == len(p.args) {
			continue
		}
		g := *p.head
		args, result := s.Arguments(g.Type, len(p.args))
		h := s.Fresh(Functions(chosen(args, kept), result))
		s.Bind(g, selection(args, h, kept))
		return true
	}
	return false
}

// Renamed returns a term whose loose Bounds, which must be in x, are those of abstractions over x; false, if another one is loose.
func Renamed(t *api.Term, x []int, around int) (api.Term, bool) {
	r := *t
	if t.Op == api.Bound && t.Num >= around {
		i := slices.Index(x, t.Num-around)
		r.Num = len(x) - 1 - i + around
		return r, i >= 0
	}
	if t.Op == api.Abs {
		around++
	}
	r.Kids = make([]api.Term, len(t.Kids))
	for i := range t.Kids {
		k, ok := Renamed(&t.Kids[i], x, around)
		if !ok {
			return api.Term{}, false
		}
		r.Kids[i] = k
	}
	return r, true
}

// Heads unifies the heads of two terms, none of which is a variable or an abstraction, and whose arguments have to be as many.
func (s *State) Heads(a, b Spine) {
	if a.Head.Op != b.Head.Op || a.Head.Name != b.Head.Name || a.Head.Num != b.Head.Num || len(a.Args) != len(b.Args) {
		panic(api.ErrFail)
	}
	if a.Head.Op == api.Const {
		s.UnifyTypes(a.Head.Type, b.Head.Type)
	}
}
