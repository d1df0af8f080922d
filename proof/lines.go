package proof

import (
	"slices"
	"strconv"
	"strings"

	"triforium/api"
)

// Lines returns the different subproofs of a proof, each one behind its Kids, the proof itself last.
func Lines(p api.Proof) ([]Line, api.Errno) {
	if e := check(&p); e != api.OK {
		return nil, e
	}
	l := lister{at: map[string]int{}}
	l.add(&p)
	return l.lines, api.OK
}

// lister collects lines, each of which it knows again by a text.
type lister struct {
	lines []Line
	at    map[string]int
}

// add adds what of a proof is not yet there, and returns the number of its line.
func (l *lister) add(p *api.Proof) int {
	var kids []int
	for i := range p.Kids {
		kids = append(kids, l.add(&p.Kids[i]))
	}
	key := lineKey(p, kids)
	if i, ok := l.at[key]; ok {
		return i
	}
	l.at[key] = len(l.lines)
	l.lines = append(l.lines, Line{Node: cloneNode(p), Kids: kids})
	return len(l.lines) - 1
}

// lineKey returns a text that is the same for equal nodes with the same lines as Kids, and another one for others.
func lineKey(p *api.Proof, kids []int) string {
	var k key
	k.numbers(p.Op, p.Num)
	k.names(p.Name)
	k.term(&p.Term)
	k.numbers(len(p.Inst.Types))
	for i := range p.Inst.Types {
		b := &p.Inst.Types[i]
		k.names(b.Name)
		k.numbers(b.Index)
		k.typ(&b.To)
	}
	k.numbers(len(p.Inst.Terms))
	for i := range p.Inst.Terms {
		b := &p.Inst.Terms[i]
		k.names(b.Name)
		k.numbers(b.Index)
		k.term(&b.To)
	}
	k.list(p.TypeNames)
	k.list(p.TermNames)
	k.numbers(kids...)
	return k.text.String()
}

// key is a text that is made of numbers, and of names with their lengths ahead, which may be any texts.
type key struct{ text strings.Builder }

func (k *key) numbers(l ...int) {
	for _, n := range l {
		k.text.WriteString(strconv.Itoa(n))
		k.text.WriteByte(' ')
	}
}

func (k *key) names(l ...string) {
	for _, s := range l {
		k.numbers(len(s))
		k.text.WriteString(s)
	}
}

func (k *key) list(l []string) {
	k.numbers(len(l))
	k.names(l...)
}

func (k *key) typ(t *api.Type) {
	k.numbers(t.Op, t.Index)
	k.names(t.Name)
	k.list(t.Sort)
	k.numbers(len(t.Args))
	for i := range t.Args {
		k.typ(&t.Args[i])
	}
}

// term adds a term without the names of abstractions.
func (k *key) term(t *api.Term) {
	k.numbers(t.Op, t.Num)
	if t.Op != api.Abs {
		k.names(t.Name)
	}
	k.typ(&t.Type)
	k.numbers(len(t.Kids))
	for i := range t.Kids {
		k.term(&t.Kids[i])
	}
}

// Join returns the proof that is the last line.
func Join(l []Line) (api.Proof, api.Errno) {
	if len(l) == 0 || len(l) > api.MaxProof {
		return api.Proof{}, api.ErrCount
	}
	for i, x := range l {
		if len(x.Node.Kids) > 0 {
			return api.Proof{}, api.ErrForm
		}
		if slices.ContainsFunc(x.Kids, func(k int) bool { return k < 0 || k >= i }) {
			return api.Proof{}, ErrLine
		}
	}
	nodes, depth := joinedSize(l)
	if nodes > api.MaxProof {
		return api.Proof{}, api.ErrLarge
	}
	if depth > MaxNest {
		// Check would say so, too, but what it is asked of would have to be built first.
		return api.Proof{}, api.ErrDepth
	}
	p := joined(l, len(l)-1)
	if e := check(&p); e != api.OK {
		return api.Proof{}, e
	}
	return clone(&p), api.OK
}

// joinedSize returns the numbers of nodes of the last line, and of those within each other, where a number above MaxProof stands for all of these.
func joinedSize(l []Line) (nodes, depth int) {
	all, deep := make([]int, len(l)), make([]int, len(l))
	for i, x := range l {
		all[i], deep[i] = 1, 1
		for _, k := range x.Kids {
			all[i] = min(all[i]+all[k], api.MaxProof+1)
			deep[i] = max(deep[i], deep[k]+1)
		}
	}
	return all[len(l)-1], deep[len(l)-1]
}

// joined returns the proof that is a line; it shares memory with the lines.
func joined(l []Line, at int) api.Proof {
	p := l[at].Node
	p.Kids = make([]api.Proof, 0, len(l[at].Kids))
	for _, k := range l[at].Kids {
		p.Kids = append(p.Kids, joined(l, k))
	}
	return p
}
