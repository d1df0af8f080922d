package unify

import (
	"slices"

	"triforium/api"
	"triforium/binds"
	"triforium/types"
)

// variable is what an instantiation binds. Its type is no part of it: terms that are checked one by one may have it at several types.
type variable struct {
	name  string
	index int
}

// closer makes the heads of flexible terms constant functions, whose results are new variables.
type closer struct {
	next    int
	heads   map[variable]bool // those that are bound
	results []api.Term        // a new variable for each type of results
	inst    api.Inst
}

// add adds a flexible term; false for another one.
func (c *closer) add(t *api.Term) bool {
	for t.Op == api.Abs {
		t = &t.Kids[0]
	}
	for t.Op == api.App {
		t = &t.Kids[0]
	}
	if t.Op != api.Var {
		return false
	}
	v := variable{t.Name, t.Num}
	if c.heads[v] {
		return true
	}
	c.heads[v] = true
	args, result := types.Strip(t.Type)
	to := binds.Abstracted(args, c.result(result))
	c.inst.Terms = append(c.inst.Terms, api.TermBind{Name: t.Name, Index: t.Num, To: to})
	return true
}

// result returns the variable for results of a type.
func (c *closer) result(t api.Type) api.Term {
	i := slices.IndexFunc(c.results, func(v api.Term) bool { return types.Equal(v.Type, t) })
	if i >= 0 {
		return c.results[i]
	}
	v := api.Term{Op: api.Var, Name: "H", Num: c.next, Type: t}
	c.next++
	c.results = append(c.results, v)
	return v
}
