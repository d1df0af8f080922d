package grammar

import (
	"iter"
	"slices"
)

// rest is a production from one of its items on, over tokens.
type rest struct{ prod, item, from, to int }

// chain has the productions above that are over the same tokens, from the nearest on. All of them have one item, which is a Symbol.
type chain struct {
	prod  int
	above *chain
}

// has reports whether a production is in a chain.
func (c *chain) has(prod int) bool {
	for ; c != nil; c = c.above {
		if c.prod == prod {
			return true
		}
	}
	return false
}

// isUnit reports whether a production only passes on a tree of a symbol.
func isUnit(p *Prod) bool { return len(p.Items) == 1 && p.Items[0].Kind == Symbol }

// all yields the trees over all tokens. The trees share memory.
func (c *chart) all() iter.Seq[Tree] { return c.trees(c.symbol, c.prio, 0, len(c.tokens), nil) }

// trees yields the trees of a symbol, of at least a priority, over tokens, below a chain. What does not lead to a tree is not tried, so that none is waited for in vain.
func (c *chart) trees(symbol string, least, from, to int, above *chain) iter.Seq[Tree] {
	return func(yield func(Tree) bool) {
		for i := range c.family(symbol, least) {
			if !c.done[place{i, from, to}] || above.has(i) {
				continue
			}
			var here *chain
			if isUnit(&c.prods[i]) {
				here = &chain{i, above}
				if !c.ends(i, from, to, here) {
					continue
				}
			}
			whole := func(kids []Tree) bool { return yield(Tree{Prod: i, Kids: kids}) }
			if !c.fill(rest{i, 0, from, to}, nil, here, whole) {
				return
			}
		}
	}
}

// ends reports whether below a production at the end of a chain there is one that ends it.
func (c *chart) ends(unit, from, to int, above *chain) bool {
	seen := map[int]bool{}
	for ; above != nil; above = above.above {
		seen[above.prod] = true
	}
	var leads func(unit int) bool
	leads = func(unit int) bool {
		item := c.prods[unit].Items[0]
		for i := range c.family(item.Text, item.Prio) {
			if seen[i] || !c.done[place{i, from, to}] {
				continue
			}
			seen[i] = true
			if !isUnit(&c.prods[i]) || leads(i) {
				return true
			}
		}
		return false
	}
	return leads(unit)
}

// fill yields the kids of a production behind those that it has, for its rest; false, if no more are wanted.
func (c *chart) fill(r rest, kids []Tree, above *chain, yield func([]Tree) bool) bool {
	p := &c.prods[r.prod]
	if r.item == len(p.Items) {
		return yield(kids)
	}
	item := p.Items[r.item]
	kids = slices.Clip(kids)
	switch item.Kind {
	case Category:
		kids = append(kids, Tree{Prod: -1, Token: r.from})
		fallthrough
	case Word:
		return c.fill(rest{r.prod, r.item + 1, r.from + 1, r.to}, kids, above, yield)
	}
	for end := r.from + 1; end <= r.to; end++ {
		behind := rest{r.prod, r.item + 1, end, r.to}
		if !c.has(item.Text, item.Prio, r.from, end) || !c.can(behind) {
			continue
		}
		for t := range c.trees(item.Text, item.Prio, r.from, end, above) {
			if !c.fill(behind, append(kids, t), above, yield) {
				return false
			}
		}
	}
	return true
}

// can reports whether the rest of a production matches its tokens.
func (c *chart) can(r rest) bool {
	p := &c.prods[r.prod]
	if r.item == len(p.Items) {
		return r.from == r.to
	}
	if known, ok := c.fits[r]; ok {
		return known
	}
	item, ok := p.Items[r.item], false
	if item.Kind != Symbol {
		ok = r.from < r.to && c.matches(item, r.from) && c.can(rest{r.prod, r.item + 1, r.from + 1, r.to})
	} else {
		for end := r.from + 1; end <= r.to && !ok; end++ {
			ok = c.has(item.Text, item.Prio, r.from, end) && c.can(rest{r.prod, r.item + 1, end, r.to})
		}
	}
	c.fits[r] = ok
	return ok
}
