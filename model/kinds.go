package model

import (
	"math"
	"math/bits"
	"strconv"

	"triforium/api"
)

// kind is a type without variables, by its number in a list that has each one once.
type kind int

// described is what there is to say of a kind.
type described struct {
	name     string
	args     []kind
	elements uint64   // math.MaxUint64 stands for so many or more
	cases    [][]kind // of a carrier: the types of the fields
}

// kinds has the types that were asked for, by texts.
type kinds struct {
	list []described
	at   map[string]kind
}

// variable names a type variable, or a variable.
type variable struct {
	fixed bool
	name  string
	index int
}

// env gives type variables types.
type env map[variable]kind

// typeVariable returns the name of a node that is a type variable.
func typeVariable(t *api.Type) variable { return variable{t.Op == api.TFree, t.Name, t.Index} }

// ground returns the kind of a type, or leaves, if a variable has no type.
func (w *world) ground(t *api.Type, by env) kind {
	if t.Op != api.TCon {
		k, ok := by[typeVariable(t)]
		if !ok {
			panic(ErrFree)
		}
		return k
	}
	var args []kind
	for i := range t.Args {
		args = append(args, w.ground(&t.Args[i], by))
	}
	return w.kindOf(t.Name, args)
}

// kindOf returns the kind of a type constructor with arguments.
func (w *world) kindOf(name string, args []kind) kind {
	key := name
	for _, a := range args {
		key += " " + strconv.Itoa(int(a))
	}
	if k, ok := w.at[key]; ok {
		return k
	}
	d := described{name: name, args: args}
	switch {
	case name == "fun":
		d.elements = power(w.list[args[1]].elements, w.list[args[0]].elements)
	case w.carriers[name] != nil:
		d.cases = w.casesOf(w.carriers[name], args)
		for _, fields := range d.cases {
			product := uint64(1)
			for _, f := range fields {
				product = times(product, w.list[f].elements)
			}
			d.elements = plus(d.elements, product)
		}
	case name == "prop" || name == "bool" && len(args) == 0:
		d.elements = 2
	default:
		panic(ErrModel)
	}
	k := kind(len(w.list))
	w.list = append(w.list, d)
	w.at[key] = k
	return k
}

// casesOf returns the types of the fields of each case of a carrier with arguments.
func (w *world) casesOf(c *Carrier, args []kind) [][]kind {
	by := env{}
	for i, p := range c.Params {
		by[variable{fixed: true, name: p}] = args[i]
	}
	cases := make([][]kind, len(c.Cases))
	for i, fields := range c.Cases {
		for j := range fields {
			cases[i] = append(cases[i], w.ground(&fields[j], by))
		}
	}
	return cases
}

// function returns the kind of functions.
func (w *world) function(a, b kind) kind { return w.kindOf("fun", []kind{a, b}) }

// plus, times and power calculate with numbers of which the greatest one stands for all that are too great.
func plus(a, b uint64) uint64 {
	sum, carry := bits.Add64(a, b, 0)
	if carry > 0 {
		return math.MaxUint64
	}
	return sum
}

func times(a, b uint64) uint64 {
	high, low := bits.Mul64(a, b)
	if high > 0 {
		return math.MaxUint64
	}
	return low
}

func power(a, n uint64) uint64 {
	if a == 1 {
		return 1
	}
	r := uint64(1)
	for ; n > 0 && r < math.MaxUint64; n-- {
		r = times(r, a)
	}
	return r
}

// tooLarge reports whether a type has more elements than are permitted.
func (w *world) tooLarge(k kind) bool { return w.list[k].elements > MaxSize }

// size returns the number of elements of a type; one more than are permitted stands for all that are too many.
func (w *world) size(k kind) int { return int(min(w.list[k].elements, MaxSize+1)) }

// call returns what a function to a type gives for an argument. Where there are two values, there are few arguments.
func (w *world) call(to kind, f, x int) int {
	m := w.size(to)
	if m == 1 {
		return 0
	}
	for range x {
		f /= m
	}
	return f % m
}

// tabled returns the element of a type of functions whose values are given.
func (w *world) tabled(of kind, value func(x int) int) int {
	if w.size(of) == 1 {
		return 0
	}
	from, to := w.list[of].args[0], w.list[of].args[1]
	f, place := 0, 1
	for x := range w.size(from) {
		f += place * value(x)
		place *= w.size(to)
	}
	return f
}

// maxFields is the greatest number of fields of a case.
const maxFields = 6

// taken returns the case of an element of a type with a carrier, and its fields.
func (w *world) taken(of kind, n int) (int, [maxFields]int) {
	var fields [maxFields]int
	cases := w.list[of].cases
	for k := range cases {
		all := 1
		for _, f := range cases[k] {
			all *= w.size(f)
		}
		if n >= all {
			n -= all
			continue
		}
		for i := len(cases[k]) - 1; i >= 0; i-- {
			m := w.size(cases[k][i])
			fields[i] = n % m
			n /= m
		}
		return k, fields
	}
	return 0, fields
}

// made returns the element of a case of a type with a carrier, which has these fields.
func (w *world) made(of kind, k int, fields []int) int {
	n := 0
	cases := w.list[of].cases
	for i, f := range cases[k] {
		n = n*w.size(f) + fields[i]
	}
	for _, ahead := range cases[:k] {
		all := 1
		for _, f := range ahead {
			all *= w.size(f)
		}
		n += all
	}
	return n
}
