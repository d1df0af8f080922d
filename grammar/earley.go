package grammar

import (
	"iter"
	"slices"
)

// state is a production of which the items ahead of the dot match the tokens from one index on.
type state struct{ prod, dot, from int }

// set has the states behind some tokens, in the order in which they were found.
type set struct {
	list      []state
	has       map[state]bool
	waiting   map[string][]state // those whose next item is a Symbol, by this
	predicted map[string]int     // the least priority of which a symbol's productions are there
}

// place is a production over tokens, span a symbol over tokens.
type place struct{ prod, from, to int }
type span struct {
	symbol   string
	from, to int
}

// chart is what Earley's algorithm finds for a question.
type chart struct {
	prods    []Prod
	families map[string]family
	symbol   string
	prio     int
	tokens   []Token
	sets     []set
	done     map[place]bool // productions that match
	best     map[span]int   // the greatest priority of those of a symbol
	fits     map[rest]bool  // what was found of the rests of productions
}

// family yields the productions of a symbol, of at least a priority, by their indices.
type family func(least int) iter.Seq[int]

// newChart runs Earley's algorithm. Without what is not productive, each state is part of a tree of tokens that may follow.
func newChart(g []Prod, symbol string, prio int, l []Token) *chart {
	c := chart{prods: g, families: sorted(g, productive(g)), symbol: symbol, prio: prio, tokens: l, done: map[place]bool{}, best: map[span]int{}, fits: map[rest]bool{}}
	for range len(l) + 1 {
		c.sets = append(c.sets, set{has: map[state]bool{}, waiting: map[string][]state{}, predicted: map[string]int{}})
	}
	c.predict(symbol, prio, 0)
	for at := range c.sets {
		if len(c.sets[at].list) == 0 {
			break
		}
		c.close(at)
	}
	return &c
}

// productive returns the productions that match any tokens at all.
func productive(g []Prod) map[int]bool {
	best := map[string]int{} // of the productive productions of a symbol the greatest priority
	all := make([]int, len(g))
	for i := range all {
		all[i] = i
	}
	return fixpoint(all, func(i int) bool {
		p := &g[i]
		if slices.ContainsFunc(p.Items, func(x Item) bool {
			greatest, ok := best[x.Text]
			return x.Kind == Symbol && (!ok || greatest < x.Prio)
		}) {
			return false
		}
		best[p.Left] = max(best[p.Left], p.Prio)
		return true
	})
}

// fixpoint returns the elements that follow, perhaps from others: it asks for those that are left until none is new.
func fixpoint[T comparable](all []T, follows func(T) bool) map[T]bool {
	in := map[T]bool{}
	for more := true; more; {
		more = false
		for _, x := range all {
			if !in[x] && follows(x) {
				in[x] = true
				more = true
			}
		}
	}
	return in
}

// sorted returns the families of the productions that are permitted, by their symbols.
func sorted(g []Prod, permitted map[int]bool) map[string]family {
	members := map[string][]int{}
	for i := range g {
		if permitted[i] {
			members[g[i].Left] = append(members[g[i].Left], i)
		}
	}
	r := map[string]family{}
	for symbol, l := range members {
		r[symbol] = func(least int) iter.Seq[int] {
			return func(yield func(int) bool) {
				for _, i := range l {
					if g[i].Prio >= least && !yield(i) {
						return
					}
				}
			}
		}
	}
	return r
}

// family yields the productions of a symbol, of at least a priority.
func (c *chart) family(symbol string, least int) iter.Seq[int] {
	f, ok := c.families[symbol]
	if !ok {
		return func(func(int) bool) {}
	}
	return f(least)
}

// add adds a state to a set.
func (c *chart) add(at int, s state) {
	x := &c.sets[at]
	if x.has[s] {
		return
	}
	x.has[s] = true
	x.list = append(x.list, s)
}

// predict adds the productions of a symbol, of at least a priority, without a match.
func (c *chart) predict(symbol string, least, at int) {
	if old, ok := c.sets[at].predicted[symbol]; ok && old <= least {
		return
	}
	c.sets[at].predicted[symbol] = least
	for i := range c.family(symbol, least) {
		c.add(at, state{i, 0, at})
	}
}

// close goes through a set, to which its own states add others.
func (c *chart) close(at int) {
	x := &c.sets[at]
states:
	for i := 0; i < len(x.list); i++ {
		s := x.list[i]
		p := &c.prods[s.prod]
		if s.dot == len(p.Items) {
			c.complete(s, at)
			continue states
		}
		item := p.Items[s.dot]
		if item.Kind == Symbol {
			x.waiting[item.Text] = append(x.waiting[item.Text], s)
			c.predict(item.Text, item.Prio, at)
			continue states
		}
		if c.matches(item, at) {
			c.add(at+1, state{s.prod, s.dot + 1, s.from})
		}
	}
}

// matches reports whether a Word or a Category matches the token with an index.
func (c *chart) matches(item Item, at int) bool {
	if at >= len(c.tokens) {
		return false
	}
	t := c.tokens[at]
	if item.Kind == Word {
		return t.Kind == "" && t.Text == item.Text
	}
	return t.Kind == item.Text
}

// complete moves the states on that wait for what a production has matched. Each production has an item, so that the set of these states is closed already.
func (c *chart) complete(s state, at int) {
	p := &c.prods[s.prod]
	c.done[place{s.prod, s.from, at}] = true
	k := span{p.Left, s.from, at}
	if old, ok := c.best[k]; ok && old >= p.Prio {
		return
	}
	c.best[k] = p.Prio
	for _, w := range c.sets[s.from].waiting[p.Left] {
		if c.prods[w.prod].Items[w.dot].Prio <= p.Prio {
			c.add(at, state{w.prod, w.dot + 1, w.from})
		}
	}
}

// has reports whether a symbol, of at least a priority, has a tree over tokens.
func (c *chart) has(symbol string, least, from, to int) bool {
	greatest, ok := c.best[span{symbol, from, to}]
	return ok && greatest >= least
}

// accepts reports whether all tokens have a tree.
func (c *chart) accepts() bool { return c.has(c.symbol, c.prio, 0, len(c.tokens)) }

// reach returns the number of tokens that are a beginning, -1 if there is no tree at all.
func (c *chart) reach() int {
	for i := range c.sets {
		if len(c.sets[i].list) == 0 {
			return i - 1
		}
	}
	return len(c.tokens)
}

// follow returns the texts of the items of a kind that may match a further token, ascending.
func (c *chart) follow(kind int) []string {
	var l []string
	for _, s := range c.sets[len(c.tokens)].list {
		p := &c.prods[s.prod]
		if s.dot < len(p.Items) && p.Items[s.dot].Kind == kind {
			l = append(l, p.Items[s.dot].Text)
		}
	}
	slices.Sort(l)
	return slices.Compact(l)
}
