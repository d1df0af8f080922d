package model

import (
	"iter"

	"triforium/api"
	"triforium/types"
)

// True reports whether all axioms hold; if not, with the name of the first one that does not.
func True(thy api.Theory, m Model) (ok bool, name string, e api.Errno) {
	defer func() {
		if x := recover(); x != nil {
			ok, name, e = false, "", failure(x)
		}
	}()
	ok, name = prepare(&thy, &m).isTrue()
	return ok, name, api.OK
}

// isTrue answers True.
func (w *world) isTrue() (bool, string) {
	for _, a := range w.theory.Axioms {
		if a.Kind == api.Defining {
			continue
		}
		if ok, _ := w.holds([]api.Term{a.Prop}); !ok {
			return false, a.Name
		}
	}
	return true, ""
}

// Limits of what Models takes, and of the models that it looks at.
const (
	maxCarrier = 3
	maxModels  = 1000
	maxTried   = 100
)

// Models returns the models, in order, in which all axioms hold: types without arguments have from 1 to size elements, the other constants of types without variables each element.
func Models(thy api.Theory, size, most int) (l []Model, e api.Errno) {
	defer func() {
		if x := recover(); x != nil {
			l, e = nil, failure(x)
		}
	}()
	o := openTheory(&thy)
	if size < 1 || size > maxCarrier || most < 1 || most > maxModels {
		return nil, api.ErrRange
	}
	p := o.plan()
	p.wantFew(size)
	for m := range p.models(size) {
		if ok, _ := o.with(&m).isTrue(); ok {
			l = append(l, m)
		}
		if len(l) == most {
			break
		}
	}
	return l, api.OK
}

// plan is what all models that Models looks at have in common.
type plan struct {
	*opened
	carriers []string
	tables   []string
	ground   []string
}

// plan returns the carriers, the tables and the Ground of models, or leaves, if there are none such.
func (o *opened) plan() *plan {
	p := &plan{opened: o}
	for _, t := range o.theory.Types {
		want(t.Arity == 0 || t.Name == "fun")
		if t.Arity == 0 && !isBuiltIn(t.Name) {
			p.carriers = append(p.carriers, t.Name)
		}
		if t.Arity == 0 && t.Name != "prop" && len(p.ground) < MaxGround {
			p.ground = append(p.ground, t.Name)
		}
	}
	for _, c := range o.theory.Consts {
		if o.isOpen(c.Name) {
			want(len(types.Variables(c.Type)) == 0)
			p.tables = append(p.tables, c.Name)
		}
	}
	return p
}

// model returns the model whose carriers have so many elements, with tables that are not yet filled in.
func (p *plan) model(sizes []int) Model {
	var m Model
	for i, name := range p.carriers {
		m.Carriers = append(m.Carriers, Carrier{Name: name, Cases: make([][]api.Type, sizes[i])})
	}
	for _, name := range p.tables {
		m.Meanings = append(m.Meanings, Meaning{Name: name, How: Table})
	}
	for _, name := range p.ground {
		m.Ground = append(m.Ground, api.Type{Op: api.TCon, Name: name})
	}
	return m
}

// elements returns how many elements the type of each table has in a model.
func (p *plan) elements(sizes []int) []int {
	m := p.model(sizes)
	m.Meanings = nil
	w := p.with(&m)
	var l []int
	for _, name := range p.tables {
		t := p.declared[name]
		l = append(l, w.size(w.ground(&t, nil)))
	}
	return l
}

// carrierSizes yields the numbers of elements of the carriers.
func (p *plan) carrierSizes(size int) iter.Seq[[]int] {
	most := make([]int, len(p.carriers))
	for i := range most {
		most[i] = size
	}
	return func(yield func([]int) bool) {
		for sizes := range assignments(most) {
			for i := range sizes {
				sizes[i]++
			}
			if !yield(sizes) {
				return
			}
		}
	}
}

// wantFew leaves, if there are too many models, or a table has a type that is too large.
func (p *plan) wantFew(size int) {
	greatest := make([]int, len(p.carriers))
	for i := range greatest {
		greatest[i] = size
	}
	for _, n := range p.elements(greatest) {
		if n > MaxSize {
			panic(api.ErrLarge)
		}
	}
	models := 0
	for sizes := range p.carrierSizes(size) {
		models += product(p.elements(sizes))
		if models > maxTried {
			panic(api.ErrLarge)
		}
	}
}

// models yields the models that are looked at.
func (p *plan) models(size int) iter.Seq[Model] {
	return func(yield func(Model) bool) {
		for sizes := range p.carrierSizes(size) {
			for values := range assignments(p.elements(sizes)) {
				m := p.model(sizes)
				for i, v := range values {
					m.Meanings[i].Value = v
				}
				if !yield(m) {
					return
				}
			}
		}
	}
}
