package model

import (
	"slices"

	"triforium/api"
)

// run has the values of variables while a term is evaluated.
type run struct {
	values []int // of Frees and Vars
	bound  []int // of abstractions around, the innermost one last
}

// code gives the value of a term, applied to arguments that stand behind it.
type code func(r *run, args []int) int

// compiled is a term under types for its type variables: the type of the application to the arguments behind it, its work, and its code.
type compiled struct {
	typ  kind
	work int
	code code
}

// scope is what a term stands in: types for its type variables, and the types of the abstractions around, the innermost one last.
type scope struct {
	by     env
	around []kind
}

// compiler makes code of terms.
type compiler struct {
	*world
	slots map[variable]int // the places of the values of Frees and Vars
	large bool             // the type of something that is evaluated has too many elements
	nodes int              // of code, each of which is work
}

// tooMuch stands for all work that is too much.
const tooMuch = MaxWork + 1

// addWork and timesWork calculate with work.
func addWork(a, b int) int   { return min(a+b, tooMuch) }
func timesWork(a, b int) int { return min(a*b, tooMuch) }

// evaluated looks at the type of something that is evaluated.
func (c *compiler) evaluated(k kind) { c.large = c.large || c.tooLarge(k) }

// term compiles a term with arguments of some types behind it. The term takes part in the application, so that it is evaluated itself only where there are none.
func (c *compiler) term(t *api.Term, s scope, behind []kind) compiled {
	c.nodes++
	if c.nodes > MaxWork {
		panic(api.ErrFuel)
	}
	var own []compiled
	for ; t.Op == api.App; t = &t.Kids[0] {
		own = append(own, c.term(&t.Kids[1], s, nil))
	}
	slices.Reverse(own)
	var args []kind
	work := 1
	for _, a := range own {
		args = append(args, a.typ)
		work = addWork(work, a.work)
	}
	head := c.head(t, s, append(args, behind...))
	if len(behind) == 0 {
		c.evaluated(head.typ)
	}
	return compiled{head.typ, addWork(work, head.work), withArguments(own, head.code)}
}

// withArguments returns the code of a head that is applied to its own arguments, and then to those behind.
func withArguments(own []compiled, head code) code {
	if len(own) == 0 {
		return head
	}
	return func(r *run, behind []int) int {
		args := make([]int, 0, len(own)+len(behind))
		for _, a := range own {
			args = append(args, a.code(r, nil))
		}
		return head(r, append(args, behind...))
	}
}

// head compiles the head of an application to arguments of some types.
func (c *compiler) head(t *api.Term, s scope, args []kind) compiled {
	switch t.Op {
	case api.Bound:
		n := t.Num
		return c.variable(s.around[len(s.around)-1-n], args, func(r *run) int { return r.bound[len(r.bound)-1-n] })
	case api.Abs:
		if len(args) == 0 {
			return c.table(t, s)
		}
		return c.redex(t, s, args)
	case api.Const:
		return c.constant(t.Name, c.ground(&t.Type, s.by), args)
	}
	slot := c.slots[variable{t.Op == api.Free, t.Name, t.Num}]
	return c.variable(c.ground(&t.Type, s.by), args, func(r *run) int { return r.values[slot] })
}

// variable compiles a variable as the head of an application.
func (c *compiler) variable(k kind, args []kind, value func(r *run) int) compiled {
	c.evaluated(k)
	typ, apply := c.application(k, len(args))
	return compiled{typ, 0, func(r *run, args []int) int { return apply(value(r), args) }}
}

// application returns the type of a function of a type that is applied to so many arguments, and what applies it.
func (c *compiler) application(k kind, n int) (kind, func(f int, args []int) int) {
	var results []kind
	for range n {
		k = c.list[k].args[1]
		results = append(results, k)
	}
	w := c.world
	return k, func(f int, args []int) int {
		for i, to := range results {
			f = w.call(to, f, args[i])
		}
		return f
	}
}

// table compiles an abstraction that is no head.
func (c *compiler) table(t *api.Term, s scope) compiled {
	from := c.ground(&t.Type, s.by)
	body := c.term(&t.Kids[0], scope{s.by, append(slices.Clone(s.around), from)}, nil)
	typ := c.function(from, body.typ)
	w := c.world
	return compiled{typ, timesWork(c.size(from), body.work), func(r *run, _ []int) int {
		r.bound = append(r.bound, 0)
		f := w.tabled(typ, func(x int) int {
			r.bound[len(r.bound)-1] = x
			return body.code(r, nil)
		})
		r.bound = r.bound[:len(r.bound)-1]
		return f
	}}
}

// redex compiles abstractions that take arguments.
func (c *compiler) redex(t *api.Term, s scope, args []kind) compiled {
	taken := 0
	for t.Op == api.Abs && taken < len(args) {
		t = &t.Kids[0]
		taken++
	}
	inner := scope{s.by, slices.Concat(s.around, args[:taken])}
	body := c.term(t, inner, args[taken:])
	return compiled{body.typ, body.work, func(r *run, args []int) int {
		r.bound = append(r.bound, args[:taken]...)
		x := body.code(r, args[taken:])
		r.bound = r.bound[:len(r.bound)-taken]
		return x
	}}
}
