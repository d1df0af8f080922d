package term

import (
	"slices"
	"strconv"

	"triforium/api"
	"triforium/types"
)

// Variant returns a name that is not among some.
func Variant(name string, names []string) string {
	if !slices.Contains(names, name) {
		return name
	}
	taken := map[string]bool{}
	for _, n := range names {
		taken[n] = true
	}
	for i := 1; ; i++ {
		if v := name + "_" + strconv.Itoa(i); !taken[v] {
			return v
		}
	}
}

// app returns an application that shares memory with both terms.
func app(f, a api.Term) api.Term {
	return api.Term{Op: api.App, Kids: []api.Term{f, a}}
}

// constant returns a closure that builds applications of a constant in new memory.
func constant(name string, t api.Type) func(args ...api.Term) api.Term {
	return func(args ...api.Term) api.Term {
		r := api.Term{Op: api.Const, Name: name, Type: t}
		for _, a := range args {
			r = app(r, a)
		}
		return clone(r)
	}
}

// Imp, All, Eq and Protect build propositions; All binds a fixed variable.
func Imp(a, b api.Term) api.Term {
	p := types.Prop()
	return constant("imp", funType(p, funType(p, p)))(a, b)
}

// All returns the proposition that another one holds for all values of a fixed variable.
func All(x, t api.Term) api.Term {
	p := types.Prop()
	abs := api.Term{Op: api.Abs, Name: x.Name, Type: x.Type, Kids: []api.Term{bind(&x, &t)}}
	return constant("all", funType(funType(x.Type, p), p))(abs)
}

// Eq returns the proposition that terms of one type are equal.
func Eq(a, b api.Term) (api.Term, api.Errno) {
	t, e := TypeOf(a)
	if e != api.OK {
		return api.Term{}, e
	}
	u, e := TypeOf(b)
	if e != api.OK {
		return api.Term{}, e
	}
	if !types.Equal(t, u) {
		return api.Term{}, api.ErrType
	}
	return constant("eq", funType(t, funType(t, types.Prop())))(a, b), api.OK
}

// Protect returns a proposition that is the same, but is not taken apart.
func Protect(t api.Term) api.Term {
	p := types.Prop()
	return constant("protect", funType(p, p))(t)
}

// argument returns the argument of a constant, if a term is this constant with one argument.
func argument(t *api.Term, name string) (*api.Term, bool) {
	if t.Op != api.App || len(t.Kids) != 2 || t.Kids[0].Op != api.Const || t.Kids[0].Name != name {
		return nil, false
	}
	return &t.Kids[1], true
}

// arguments returns the two arguments of a constant, if a term is this constant with two.
func arguments(t *api.Term, name string) (a, b *api.Term, ok bool) {
	if t.Op != api.App || len(t.Kids) != 2 {
		return nil, nil, false
	}
	a, ok = argument(&t.Kids[0], name)
	return a, &t.Kids[1], ok
}

// two returns the two arguments of a constant in new memory.
func two(t *api.Term, name string) (a, b api.Term, ok bool) {
	x, y, ok := arguments(t, name)
	if !ok {
		return api.Term{}, api.Term{}, false
	}
	return clone(*x), clone(*y), true
}

// IsImp, IsAll, IsEq and IsProtect take propositions apart; of IsAll it is the abstraction.
func IsImp(t api.Term) (a, b api.Term, ok bool) { return two(&t, "imp") }

// IsAll returns the abstraction of a proposition that All builds.
func IsAll(t api.Term) (api.Term, bool) {
	a, ok := argument(&t, "all")
	if !ok || a.Op != api.Abs {
		return api.Term{}, false
	}
	return clone(*a), true
}

// IsEq returns the two sides of an equation.
func IsEq(t api.Term) (a, b api.Term, ok bool) { return two(&t, "eq") }

// IsProtect returns what is protected.
func IsProtect(t api.Term) (api.Term, bool) {
	a, ok := argument(&t, "protect")
	if !ok {
		return api.Term{}, false
	}
	return clone(*a), true
}

// Strip returns the premises and the conclusion of a proposition.
func Strip(t api.Term) ([]api.Term, api.Term) {
	var l []api.Term
	rest := &t
	for {
		a, b, ok := arguments(rest, "imp")
		if !ok {
			return l, clone(*rest)
		}
		l = append(l, clone(*a))
		rest = b
	}
}

// Spine returns the head of applications and its arguments; Apps applies a head to arguments.
func Spine(t api.Term) (api.Term, []api.Term) {
	var l []api.Term
	head := &t
	for isApplication(head) {
		l = append(l, clone(head.Kids[1]))
		head = &head.Kids[0]
	}
	slices.Reverse(l)
	return clone(*head), l
}

// isApplication reports whether a term is one that app returns, without fields that Apps could not give back.
func isApplication(t *api.Term) bool {
	return t.Op == api.App && len(t.Kids) == 2 && t.Name == "" && t.Num == 0 && isZero(&t.Type)
}

// Apps applies a term to others, one behind the other.
func Apps(f api.Term, l []api.Term) api.Term {
	for _, a := range l {
		f = app(f, a)
	}
	return clone(f)
}
