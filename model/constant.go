package model

import (
	"triforium/api"
	"triforium/types"
)

// constant compiles a constant at a type as the head of an application.
func (c *compiler) constant(name string, at kind, args []kind) compiled {
	if c.known[name] {
		wanted, _ := types.Strip(c.declared[name])
		from, _ := c.stripped(at, len(wanted))
		return c.primitive(at, args, len(from), c.knownValue(name, from))
	}
	if m := c.meanings[name]; m != nil {
		takes := c.argumentsOf(m)
		return c.primitive(at, args, takes, c.meant(m, at, takes))
	}
	for i := range c.definitions[name] {
		d := &c.definitions[name][i]
		by := env{}
		if !c.isInstance(at, &d.at, by) {
			continue
		}
		right := c.term(&d.right, scope{by: by}, args)
		return compiled{right.typ, right.work, func(r *run, args []int) int { return right.code(&run{}, args) }}
	}
	// defined for other types alone
	typ, _ := c.application(at, len(args))
	return compiled{typ, 0, func(*run, []int) int { return 0 }}
}

// stripped returns the types of the first arguments of functions of a type, and the type of what they give.
func (w *world) stripped(k kind, n int) ([]kind, kind) {
	var from []kind
	for range n {
		from = append(from, w.list[k].args[0])
		k = w.list[k].args[1]
	}
	return from, k
}

// primitive compiles a constant whose value is known if it has so many arguments.
func (c *compiler) primitive(at kind, args []kind, takes int, value func(args []int) int) compiled {
	typ, _ := c.application(at, len(args))
	from, result := c.stripped(at, takes)
	if len(args) >= takes {
		_, apply := c.application(result, len(args)-takes)
		return compiled{typ, 0, func(_ *run, args []int) int { return apply(value(args[:takes]), args[takes:]) }}
	}
	var missing []int
	for _, k := range from[len(args):] {
		missing = append(missing, c.size(k))
	}
	w := c.world
	return compiled{typ, product(missing), func(_ *run, args []int) int { return w.partial(typ, takes, args, value) }}
}

// partial returns the element of the type of functions from the arguments that are missing.
func (w *world) partial(of kind, takes int, args []int, value func(args []int) int) int {
	if len(args) == takes {
		return value(args)
	}
	return w.tabled(of, func(x int) int {
		more := append(append(make([]int, 0, takes), args...), x)
		return w.partial(w.list[of].args[1], takes, more, value)
	})
}

// argumentsOf returns how many arguments a constant with a meaning takes.
func (w *world) argumentsOf(m *Meaning) int {
	switch cases := w.carriers[m.Type]; m.How {
	case Maker:
		return len(cases.Cases[m.Case])
	case Chooser:
		return len(cases.Cases) + 1
	case Part:
		return 1
	}
	return 0
}

// meant returns the value of a constant with a meaning at a type, of as many arguments as it takes.
func (c *compiler) meant(m *Meaning, at kind, takes int) func(args []int) int {
	w := c.world
	from, result := w.stripped(at, takes)
	switch m.How {
	case Maker:
		return func(x []int) int { return w.made(result, m.Case, x) }
	case Part:
		return func(x []int) int {
			k, fields := w.taken(from[0], x[0])
			if k != m.Case {
				return 0
			}
			return fields[m.Field]
		}
	case Chooser:
		of := from[takes-1]
		var apply [maxCases]func(f int, args []int) int
		for k, fields := range w.list[of].cases {
			_, apply[k] = c.application(from[k], len(fields))
		}
		return func(x []int) int {
			k, fields := w.taken(of, x[takes-1])
			return apply[k](x[k], fields[:])
		}
	}
	return func([]int) int { return m.Value }
}

// isInstance reports whether a type is an instance of another one, by types for its type variables, which are collected.
func (w *world) isInstance(k kind, general *api.Type, by env) bool {
	if general.Op != api.TCon {
		v := typeVariable(general)
		if old, ok := by[v]; ok {
			return old == k
		}
		by[v] = k
		return w.hasSort(k, general.Sort)
	}
	d := &w.list[k]
	if d.name != general.Name || len(d.args) != len(general.Args) {
		return false
	}
	for i := range d.args {
		if !w.isInstance(d.args[i], &general.Args[i], by) {
			return false
		}
	}
	return true
}

// hasSort reports whether a type has a sort.
func (w *world) hasSort(k kind, s []string) bool {
	if len(s) == 0 {
		return true
	}
	d := &w.list[k]
	sorts, ok := w.signature.Algebra().Sorts(d.name, s)
	if !ok {
		return false
	}
	for i, a := range d.args {
		if !w.hasSort(a, sorts[i]) {
			return false
		}
	}
	return true
}
