package model

import (
	"iter"
	"slices"

	"triforium/api"
	"triforium/term"
	"triforium/types"
)

// check wants a term to be right, and returns its type.
func (w *world) check(t *api.Term) api.Type {
	typ, e := w.signature.Check(*t)
	if e != api.OK {
		panic(e)
	}
	return typ
}

// wantCovered looks whether a model says what all in some terms means.
func (w *world) wantCovered(l ...api.Term) {
	seen := map[string]bool{}
	for i := range l {
		want(w.covers(&l[i], seen))
	}
}

// Evaluate returns the element that a term means.
func Evaluate(thy api.Theory, m Model, t api.Term, a Assign) (n int, e api.Errno) {
	defer func() {
		if x := recover(); x != nil {
			n, e = 0, failure(x)
		}
	}()
	w := prepare(&thy, &m)
	w.check(&t)
	w.wantCovered(t)
	by := env{}
	for _, v := range term.TypeVariables(t) {
		by[typeVariable(&v)] = w.assignedType(&v, a.Types)
	}
	q := question{compiler: compiler{world: w, slots: map[variable]int{}}}
	var r run
	for _, x := range slices.Concat(term.Frees(t), term.Vars(t)) {
		q.slots[nameOf(&x)] = len(r.values)
		r.values = append(r.values, w.assignedValue(&x, by, a.Values))
	}
	c := q.term(&t, scope{by: by}, nil)
	q.add(c.work)
	q.finish()
	return c.code(&r, nil), api.OK
}

// assignedType returns the type that an assignment gives a type variable.
func (w *world) assignedType(v *api.Type, l []api.TypeBind) kind {
	at := slices.IndexFunc(l, func(b api.TypeBind) bool { return b.Name == v.Name && b.Index == indexOf(v.Op == api.TFree, v.Index) })
	if at < 0 {
		panic(ErrFree)
	}
	t := &l[at].To
	a := w.signature.Algebra()
	if types.CheckIn(a, *t) != api.OK || !w.coversType(t) || !types.HasSortIn(a, t, v.Sort) {
		panic(ErrFree)
	}
	return w.ground(t, nil)
}

// assignedValue returns the element that an assignment gives a variable.
func (w *world) assignedValue(x *api.Term, by env, l []Value) int {
	at := slices.IndexFunc(l, func(v Value) bool { return v.Name == x.Name && v.Index == indexOf(x.Op == api.Free, x.Num) })
	if at < 0 {
		panic(ErrFree)
	}
	n := l[at].Value
	if n < 0 || uint64(n) >= w.list[w.ground(&x.Type, by)].elements {
		panic(ErrFree)
	}
	return n
}

// indexOf returns the index of a variable in an assignment.
func indexOf(fixed bool, index int) int {
	if fixed {
		return -1
	}
	return index
}

// nameOf returns the name of a Free or a Var.
func nameOf(x *api.Term) variable { return variable{x.Op == api.Free, x.Name, x.Num} }

// question adds up the work of all that is compiled for it.
type question struct {
	compiler
	work int
}

// add adds work, and leaves, if there is too much.
func (q *question) add(work int) {
	q.work = addWork(q.work, work)
	if q.work > MaxWork {
		panic(api.ErrFuel)
	}
}

// finish leaves, if something is too large.
func (q *question) finish() {
	if q.large {
		panic(api.ErrLarge)
	}
}

// Holds reports whether a proposition is true, whatever its variables mean, wherever the hypotheses are; if not, with the first assignment that shows it.
func Holds(thy api.Theory, m Model, hyps []api.Term, prop api.Term) (ok bool, a Assign, e api.Errno) {
	defer func() {
		if x := recover(); x != nil {
			ok, a, e = false, Assign{}, failure(x)
		}
	}()
	if len(hyps) > api.MaxHyps {
		return false, Assign{}, api.ErrForm
	}
	ok, a = prepare(&thy, &m).holds(append(slices.Clone(hyps), prop))
	return ok, a, api.OK
}

// holds answers Holds for some hypotheses and, as the last one, the proposition.
func (w *world) holds(l []api.Term) (bool, Assign) {
	for i := range l {
		if typ := w.check(&l[i]); !types.Equal(typ, types.Prop()) {
			panic(api.ErrType)
		}
	}
	v := variablesOf(l)
	w.wantCovered(l...)
	choices := w.choices(v.types)
	if product(lengths(choices)) > MaxWork {
		panic(api.ErrFuel)
	}
	q := question{compiler: compiler{world: w, slots: map[variable]int{}}}
	for i := range v.terms {
		q.slots[nameOf(&v.terms[i])] = i
	}
	var all []instance
	for chosen := range assignments(lengths(choices)) {
		all = append(all, q.instance(l, &v, choices, chosen))
	}
	q.finish()
	for i := range all {
		for values := range assignments(all[i].sizes) {
			if all[i].refuted(values) {
				return false, w.assign(&v, choices, all[i].chosen, values)
			}
		}
	}
	return true, Assign{}
}

// given has the type variables and the variables of some terms, each once, in order.
type given struct {
	types []api.Type
	terms []api.Term // all Frees, and then all Vars
}

// variablesOf returns the variables of terms, or leaves, if there are two of one name with different sorts or types.
func variablesOf(l []api.Term) given {
	var g given
	sorts := map[variable][]string{}
	for _, t := range l {
		for _, v := range term.TypeVariables(t) {
			old, ok := sorts[typeVariable(&v)]
			if ok && !slices.Equal(old, v.Sort) {
				panic(api.ErrSort)
			}
			if !ok {
				sorts[typeVariable(&v)] = v.Sort
				g.types = append(g.types, v)
			}
		}
	}
	seen := map[variable]*api.Type{}
	add := func(all []api.Term) {
		for i := range all {
			x := &all[i]
			old := seen[nameOf(x)]
			if old != nil && !types.Equal(*old, x.Type) {
				panic(api.ErrType)
			}
			if old == nil {
				seen[nameOf(x)] = &x.Type
				g.terms = append(g.terms, *x)
			}
		}
	}
	for _, t := range l {
		add(term.Frees(t))
	}
	for _, t := range l {
		add(term.Vars(t))
	}
	return g
}

// choice is a type over which a type variable ranges: that of Ground with a number.
type choice struct {
	typ    kind
	ground int
}

// choices returns for each type variable the types of Ground with its sort.
func (w *world) choices(l []api.Type) [][]choice {
	all := make([][]choice, len(l))
	for i, v := range l {
		for j := range w.model.Ground {
			k := w.ground(&w.model.Ground[j], nil)
			if w.hasSort(k, v.Sort) {
				all[i] = append(all[i], choice{k, j})
			}
		}
	}
	return all
}

// lengths returns how many choices there are for each type variable.
func lengths(choices [][]choice) []int {
	var l []int
	for _, c := range choices {
		l = append(l, len(c))
	}
	return l
}

// product returns the product of numbers, which may be cut off where it is too much work.
func product(l []int) int {
	if slices.Contains(l, 0) {
		return 0
	}
	r := 1
	for _, n := range l {
		r = timesWork(r, n)
	}
	return r
}

// instance is what was asked, with types for the type variables.
type instance struct {
	chosen []int // of the choices
	sizes  []int // of the types of variables
	codes  []code
}

// instance compiles terms with types for the type variables, and counts their work for all assignments.
func (q *question) instance(l []api.Term, g *given, choices [][]choice, chosen []int) instance {
	r := instance{chosen: chosen}
	s := scope{by: env{}}
	for i := range g.types {
		s.by[typeVariable(&g.types[i])] = choices[i][chosen[i]].typ
	}
	for i := range g.terms {
		k := q.ground(&g.terms[i].Type, s.by)
		q.evaluated(k)
		r.sizes = append(r.sizes, q.size(k))
	}
	for i := range l {
		c := q.term(&l[i], s, nil)
		q.add(timesWork(product(r.sizes), c.work))
		r.codes = append(r.codes, c.code)
	}
	return r
}

// refuted reports whether all hypotheses are true, but not the proposition.
func (i *instance) refuted(values []int) bool {
	last := len(i.codes) - 1
	for k, c := range i.codes {
		if (c(&run{values: values}, nil) == 1) == (k == last) {
			return false
		}
	}
	return true
}

// assignments yields lists of numbers from 0 to below the sizes, of which the first one changes slowest.
func assignments(sizes []int) iter.Seq[[]int] {
	return func(yield func([]int) bool) {
		if slices.Contains(sizes, 0) {
			return
		}
		values := make([]int, len(sizes))
		for {
			if !yield(slices.Clone(values)) {
				return
			}
			i := len(sizes) - 1
			for i >= 0 && values[i] == sizes[i]-1 {
				values[i] = 0
				i--
			}
			if i < 0 {
				return
			}
			values[i]++
		}
	}
}

// assign returns an assignment.
func (w *world) assign(g *given, choices [][]choice, chosen, values []int) Assign {
	var a Assign
	for i, v := range g.types {
		to := types.Apply(nil, w.model.Ground[choices[i][chosen[i]].ground])
		a.Types = append(a.Types, api.TypeBind{Name: v.Name, Index: indexOf(v.Op == api.TFree, v.Index), To: to})
	}
	for i, x := range g.terms {
		a.Values = append(a.Values, Value{Name: x.Name, Index: indexOf(x.Op == api.Free, x.Num), Value: values[i]})
	}
	return a
}
