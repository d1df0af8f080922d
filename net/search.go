package net

import (
	"iter"
	"slices"

	"triforium/api"
)

// What a term is that is asked for.
const (
	anything = 0 // it may become whatever there is
	flexible = 1 // its head is a variable
	rigid    = 2
)

// query is a term that is asked for.
type query struct {
	kind int
	text string // the first one of the key of a rigid term
	args []*query
}

// newQuery returns what is asked for by a term.
func newQuery(t *api.Term) *query {
	head, args := spine(t)
	text, ok := first(head, len(args))
	switch {
	case head.Op == api.Var:
		return &query{kind: flexible}
	case !ok:
		return &query{}
	}
	q := query{kind: rigid, text: text}
	for _, a := range args {
		q.args = append(q.args, newQuery(a))
	}
	return &q
}

// ask yields the values of the entries whose terms may match a term, or be unified with it, in order.
func (n *Net[V]) ask(t api.Term, unify bool) iter.Seq[V] {
	root, q := n.part().root, newQuery(&t)
	return inOrder(func(found func(entry[V])) {
		s := search[V]{unify, found}
		s.find(root, []*query{q})
	})
}

// search finds entries.
type search[V comparable] struct {
	unify bool
	found func(entry[V])
}

// find finds the entries behind a node for the terms that follow in a key.
func (s search[V]) find(n *node[V], terms []*query) {
	if n == nil {
		return
	}
	if len(terms) == 0 {
		for _, e := range n.entries {
			s.found(e)
		}
		return
	}
	q, rest := terms[0], terms[1:]
	switch {
	case q.kind == anything || q.kind == flexible && s.unify:
		s.skip(n, 1, rest)
		return
	case q.kind == rigid:
		s.find(n.kids[q.text].to, slices.Concat(q.args, rest))
	}
	s.find(n.kids[wild].to, rest)
}

// skip finds the entries behind a node, whatever so many terms are that come first in their keys.
func (s search[V]) skip(n *node[V], terms int, rest []*query) {
	if terms == 0 {
		s.find(n, rest)
		return
	}
	for _, b := range n.kids {
		s.skip(b.to, terms-1+b.args, rest)
	}
}
