package resolve

import (
	"slices"

	"triforium/api"
	"triforium/term"
	"triforium/types"
)

// Subgoal is a proposition taken apart: its parameters (abstractions' names and types, as Frees, outermost first), assumptions and conclusion (in which the parameters are bound variables).
type Subgoal struct {
	Params []api.Term
	Hyps   []api.Term
	Concl  api.Term
}

// Split takes a subgoal apart; Whole puts it together.
func Split(t api.Term) Subgoal {
	var s Subgoal
	var around []int // of each assumption, how many parameters stand ahead of it
	rest := &t
	for {
		if x, ok := quantified(rest); ok {
			s.Params = append(s.Params, api.Term{Op: api.Free, Name: x.Name, Type: types.Apply(nil, x.Type)})
			rest = &x.Kids[0]
			continue
		}
		a, b, ok := implication(rest)
		if !ok {
			break
		}
		s.Hyps = append(s.Hyps, *a)
		around = append(around, len(s.Params))
		rest = b
	}
	for i := range s.Hyps {
		s.Hyps[i] = term.Lift(s.Hyps[i], len(s.Params)-around[i])
	}
	s.Concl = term.Lift(*rest, 0)
	return s
}

// quantified returns the abstraction of a proposition that is one for all values of its variable.
func quantified(t *api.Term) (*api.Term, bool) {
	if t.Op != api.App || len(t.Kids) != 2 || !isConst(&t.Kids[0], "all") {
		return nil, false
	}
	x := &t.Kids[1]
	return x, x.Op == api.Abs && len(x.Kids) == 1
}

// implication returns the premise and the conclusion of an implication.
func implication(t *api.Term) (a, b *api.Term, ok bool) {
	if t.Op != api.App || len(t.Kids) != 2 {
		return nil, nil, false
	}
	f := &t.Kids[0]
	if f.Op != api.App || len(f.Kids) != 2 || !isConst(&f.Kids[0], "imp") {
		return nil, nil, false
	}
	return &f.Kids[1], &t.Kids[1], true
}

func isConst(t *api.Term, name string) bool { return t.Op == api.Const && t.Name == name }

// Whole puts a subgoal together.
func Whole(s Subgoal) api.Term {
	t := s.Concl
	for _, h := range slices.Backward(s.Hyps) {
		t = imp(h, t)
	}
	for _, p := range slices.Backward(s.Params) {
		t = all(p.Name, p.Type, t)
	}
	return term.Lift(t, 0)
}

// imp and all return propositions that share memory with what they are given; all one for all values of the bound variable of a body.
func imp(a, b api.Term) api.Term {
	p := types.Prop()
	c := api.Term{Op: api.Const, Name: "imp", Type: types.Fun(p, types.Fun(p, p))}
	return app(app(c, a), b)
}

func all(name string, typ api.Type, body api.Term) api.Term {
	p := types.Prop()
	c := api.Term{Op: api.Const, Name: "all", Type: types.Fun(types.Fun(typ, p), p)}
	return app(c, abs(name, typ, body))
}

func app(f, a api.Term) api.Term { return api.Term{Op: api.App, Kids: []api.Term{f, a}} }

func abs(name string, typ api.Type, body api.Term) api.Term {
	return api.Term{Op: api.Abs, Name: name, Type: typ, Kids: []api.Term{body}}
}

// piece is a parameter of a subgoal, with the name of its abstraction and a Free that stands for it, or an assumption.
type piece struct {
	param bool
	name  string
	term  api.Term
}

// open takes a proposition apart as Split does, but with new Frees for its parameters, and its pieces in their order.
func (m *maker) open(t api.Term) ([]piece, api.Term) {
	var l []piece
	for {
		if x, ok := quantified(&t); ok {
			free := m.Free(x.Name, x.Type)
			l = append(l, piece{true, x.Name, free})
			t = term.Put(x.Kids[0], free)
			continue
		}
		a, b, ok := implication(&t)
		if !ok {
			return l, t
		}
		l = append(l, piece{term: *a})
		t = *b
	}
}

// along takes a proposition apart that has pieces like some others: an instance of what had these.
func along(l []piece, t api.Term) ([]piece, api.Term) {
	var r []piece
	for _, p := range l {
		if p.param {
			x, ok := quantified(&t)
			if !ok {
				panic(api.ErrFail)
			}
			p.term.Type = x.Type
			t = term.Put(x.Kids[0], p.term)
		} else {
			a, b, ok := implication(&t)
			if !ok {
				panic(api.ErrFail)
			}
			p.term, t = *a, *b
		}
		r = append(r, p)
	}
	return r, t
}

// closed puts pieces and a conclusion together.
func closed(l []piece, t api.Term) api.Term {
	for _, p := range slices.Backward(l) {
		if p.param {
			t = all(p.name, p.term.Type, term.Bind(p.term, t))
		} else {
			t = imp(p.term, t)
		}
	}
	return t
}

// flat returns the parameters among pieces, and then the assumptions.
func flat(l []piece) []piece { return slices.Concat(params(l), hyps(l)) }

func params(l []piece) []piece {
	return slices.DeleteFunc(slices.Clone(l), func(p piece) bool { return !p.param })
}

func hyps(l []piece) []piece {
	return slices.DeleteFunc(slices.Clone(l), func(p piece) bool { return p.param })
}

// function returns a term as a function of the parameters among pieces.
func function(l []piece, t api.Term) api.Term {
	for _, p := range slices.Backward(params(l)) {
		t = abs(p.name, p.term.Type, term.Bind(p.term, t))
	}
	return t
}

// premises returns the first premises of a proposition, so many, and what is behind them.
func premises(t api.Term, n int) ([]api.Term, api.Term) {
	var l []api.Term
	for range n {
		a, b, ok := implication(&t)
		if !ok {
			panic(api.ErrFail)
		}
		l = append(l, *a)
		t = *b
	}
	return l, t
}
