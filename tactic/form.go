package tactic

import (
	"triforium/api"
	"triforium/term"
)

// Limits of expressions.
const (
	maxNodes = 100
	maxDepth = 20
	maxAt    = 100
)

// Form returns the error of an expression for so many rules.
func Form(e Expr, rules int) api.Errno {
	nodes, depth := 0, 0
	if !e.count(1, &nodes, &depth) {
		return api.ErrCount
	}
	if depth > maxDepth {
		return api.ErrDepth
	}
	return e.form(rules)
}

// count counts the nodes of an expression at a depth, and how many are within each other; false above the limit.
func (e *Expr) count(at int, nodes, depth *int) bool {
	*nodes++
	*depth = max(*depth, at)
	if *nodes > maxNodes {
		return false
	}
	for i := range e.Kids {
		if !e.Kids[i].count(at+1, nodes, depth) {
			return false
		}
	}
	return true
}

// fields says what a kind of expressions takes.
type fields struct {
	kids          int
	at, num, prop bool
}

// fieldsOf returns the fields of a kind, and whether there is one.
func fieldsOf(kind int) (fields, bool) {
	switch kind {
	case Rule, Erule, Drule, Unfold:
		return fields{at: true, num: true}, true
	case Assume, Rotate, Protect:
		return fields{at: true}, true
	case Cut:
		return fields{at: true, prop: true}, true
	case Pass, Fail:
		return fields{}, true
	case Then, Or, Else:
		return fields{kids: 2}, true
	case Try, Repeat, Each, First, Solve:
		return fields{kids: 1}, true
	}
	return fields{}, false
}

// form returns the error of the nodes of an expression.
func (e *Expr) form(rules int) api.Errno {
	f, ok := fieldsOf(e.Kind)
	if !ok || len(e.Kids) != f.kids || !f.at && e.At != 0 || !f.num && e.Num != 0 || !f.prop && !term.Equal(e.Prop, api.Term{}) {
		return api.ErrForm
	}
	if e.At < 0 || e.At > maxAt || f.num && (e.Num < 0 || e.Num >= rules) {
		return api.ErrRange
	}
	for i := range e.Kids {
		if code := e.Kids[i].form(rules); code != api.OK {
			return code
		}
	}
	return api.OK
}

// copied returns an expression in new memory.
func (e *Expr) copied() Expr {
	r := *e
	r.Prop = term.Lift(e.Prop, 0)
	r.Kids = nil
	for i := range e.Kids {
		r.Kids = append(r.Kids, e.Kids[i].copied())
	}
	return r
}
