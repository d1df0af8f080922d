package grammar_test

import (
	"math/rand"
	"slices"
	"testing"

	"triforium/api"
	"triforium/grammar"
)

// random returns a random grammar of few symbols, and random tokens.
func random(r *rand.Rand) ([]grammar.Prod, []grammar.Token) {
	symbols, prios := []string{"A", "A", "B", "C"}, []int{0, 0, 1, 2}
	var g []grammar.Prod
	for range 1 + r.Intn(7) {
		p := grammar.Prod{Left: symbols[r.Intn(4)], Prio: prios[r.Intn(4)]}
		for range 1 + r.Intn(3) {
			switch r.Intn(5) {
			case 0:
				p.Items = append(p.Items, word([]string{"x", "y"}[r.Intn(2)]))
			case 1:
				p.Items = append(p.Items, kind([]string{"k", "x"}[r.Intn(2)]))
			default:
				p.Items = append(p.Items, sym(symbols[r.Intn(4)], prios[r.Intn(4)]))
			}
		}
		g = append(g, p)
	}
	for range 2 {
		g = append(g, prod(symbols[r.Intn(4)], prios[r.Intn(4)], word("x")))
	}
	r.Shuffle(len(g), func(i, j int) { g[i], g[j] = g[j], g[i] })
	var l []grammar.Token
	for range r.Intn(6) {
		l = append(l, []grammar.Token{{"", "x"}, {"", "x"}, {"", "x"}, {"", "x"}, {"", "x"}, {"", "y"}, {"k", "x"}, {"x", ""}}[r.Intn(8)])
	}
	return g, l
}

// naive is a question, answered by the words of the chapter.
type naive struct {
	g []grammar.Prod
	l []grammar.Token
}

// trees returns the first trees of a symbol over tokens in which no production of above stands at the root; at most 40.
func (n naive) trees(symbol string, prio, from, to int, above []int) []grammar.Tree {
	var r []grammar.Tree
	for i, p := range n.g {
		if p.Left != symbol || p.Prio < prio || slices.Contains(above, i) {
			continue
		}
		for _, kids := range n.kids(i, 0, from, to, above, from, to) {
			r = append(r, grammar.Tree{Prod: i, Kids: kids})
		}
	}
	return r[:min(len(r), 40)]
}

// kids returns the kids of a production over tokens, from an item on.
func (n naive) kids(i, item, from, to int, above []int, first, last int) [][]grammar.Tree {
	p := n.g[i]
	left := len(p.Items) - item
	if left == 0 {
		return [][]grammar.Tree{nil}
	}
	var r [][]grammar.Tree
	x := p.Items[item]
	for end := from + 1; end <= to-left+1; end++ {
		if left == 1 && end != to {
			continue
		}
		var l []grammar.Tree
		ahead := 1
		switch {
		case x.Kind == grammar.Symbol && from == first && end == last:
			l = n.trees(x.Text, x.Prio, from, end, append(slices.Clone(above), i))
		case x.Kind == grammar.Symbol:
			l = n.trees(x.Text, x.Prio, from, end, nil)
		case end > from+1:
			continue
		case x.Kind == grammar.Category && n.l[from].Kind == x.Text:
			l = []grammar.Tree{{Prod: -1, Token: from}}
		case x.Kind == grammar.Word && n.l[from].Kind == "" && n.l[from].Text == x.Text:
			l, ahead = []grammar.Tree{{}}, 0
		}
		if len(l) == 0 {
			continue
		}
		behind := n.kids(i, item+1, end, to, nil, first, last)
		for _, t := range l {
			for _, k := range behind {
				r = append(r, append([]grammar.Tree{t}[:ahead:ahead], k...))
			}
		}
	}
	return r
}

// begins is the set of symbols, by priorities and first tokens, some of whose trees begin with all tokens from there on: a fixpoint.
type goal struct {
	symbol   string
	prio, at int
}

func (n naive) begins() map[goal]bool {
	in := map[goal]bool{}
	for more := true; more; {
		more = false
		for _, p := range n.g {
			for at := range len(n.l) + 1 {
				if n.prefix(in, p.Items, at) {
					for prio := range p.Prio + 1 {
						x := goal{p.Left, prio, at}
						more = more || !in[x]
						in[x] = true
					}
				}
			}
		}
	}
	return in
}

// prefix reports whether items match more tokens than those from a place on.
func (n naive) prefix(in map[goal]bool, items []grammar.Item, at int) bool {
	if len(items) == 0 {
		return at == len(n.l)
	}
	x := items[0]
	if at == len(n.l) {
		return (x.Kind != grammar.Symbol || in[goal{x.Text, x.Prio, at}]) && n.prefix(in, items[1:], at)
	}
	if x.Kind != grammar.Symbol {
		t := n.l[at]
		ok := x.Kind == grammar.Word && t == grammar.Token{Text: x.Text} || x.Kind == grammar.Category && t.Kind == x.Text
		return ok && n.prefix(in, items[1:], at+1)
	}
	if in[goal{x.Text, x.Prio, at}] && n.prefix(in, items[1:], len(n.l)) {
		return true
	}
	for end := at + 1; end <= len(n.l); end++ {
		if len(n.trees(x.Text, x.Prio, at, end, nil)) > 0 && n.prefix(in, items[1:], end) {
			return true
		}
	}
	return false
}

func TestNaive(t *testing.T) {
	r := rand.New(rand.NewSource(1))
	found := 0
	for range 3000 {
		g, l := random(r)
		n, prio := naive{g, l}, r.Intn(3)
		all := n.trees("A", prio, 0, len(l), nil)
		got, e := grammar.Parse(g, "A", prio, l, 20)
		want := all[:min(len(all), 20)]
		if !slices.EqualFunc(got, want, grammar.Equal) || (e == api.OK) != (len(want) > 0) {
			t.Fatal(g, l, "\n", shownAll(got), "\n", shownAll(want))
		}
		if len(want) > 1 {
			found++
		}
		if ok, _ := grammar.Accepts(g, "A", prio, l); ok != (len(want) > 0) {
			t.Fatal("Accepts", g, l)
		}
		reach := -1
		for k := range len(l) + 1 {
			if (naive{g, l[:k]}).begins()[goal{"A", prio, 0}] {
				reach = k
			}
		}
		if k, _ := grammar.Reach(g, "A", prio, l); k != reach {
			t.Fatal("Reach", g, l, k, reach)
		}
		follows(t, g, l, prio)
	}
	if found < 60 {
		t.Error(found)
	}
}

// follows holds Next against the beginnings with one token more.
func follows(t *testing.T, g []grammar.Prod, l []grammar.Token, prio int) {
	w, k, _ := grammar.Next(g, "A", prio, l)
	for _, x := range []string{"x", "y", "k", "A"} {
		one := naive{g, append(slices.Clone(l), grammar.Token{Text: x})}
		if one.begins()[goal{"A", prio, 0}] != slices.Contains(w, x) {
			t.Fatal("Next", g, l, w, x)
		}
		other := naive{g, append(slices.Clone(l), grammar.Token{Kind: x, Text: "any"})}
		if other.begins()[goal{"A", prio, 0}] != slices.Contains(k, x) {
			t.Fatal("Next", g, l, k, x)
		}
	}
	if !slices.IsSorted(w) || !slices.IsSorted(k) || len(w)+len(k) > 4 {
		t.Fatal(w, k)
	}
}

func TestLaws(t *testing.T) {
	r := rand.New(rand.NewSource(2))
	for range 4000 {
		g, l := random(r)
		prio := r.Intn(3)
		all, e := grammar.Parse(g, "A", prio, l, 1000)
		n, _ := grammar.Reach(g, "A", prio, l)
		if e == api.OK && n != len(l) {
			t.Fatal("Reach", g, l)
		}
		for i, x := range all {
			y, e := grammar.Yield(g, l, x)
			if e != api.OK || !slices.Equal(y, l) || g[x.Prod].Left != "A" || g[x.Prod].Prio < prio || i > 0 && grammar.Equal(x, all[i-1]) {
				t.Fatal("Yield", g, l, shown(x))
			}
		}
		if len(all) == 1000 {
			continue
		}
		low, _ := grammar.Parse(g, "A", 0, l, 1000)
		if !isPart(all, low) {
			t.Fatal("priorities", g, l)
		}
		more, _ := random(r)
		wide, _ := grammar.Parse(append(slices.Clone(g), more...), "A", prio, l, 1000)
		if len(wide) < 1000 && !isPart(all, wide) {
			t.Fatal("extended", g, more, l)
		}
	}
}

// isPart reports whether trees are among others, in the same order.
func isPart(a, b []grammar.Tree) bool {
	if len(b) == 1000 {
		return true
	}
	for _, x := range b {
		if len(a) > 0 && grammar.Equal(a[0], x) {
			a = a[1:]
		}
	}
	return len(a) == 0
}

// TestAny gives trees of any form.
func TestAny(t *testing.T) {
	r := rand.New(rand.NewSource(3))
	var any func(depth int) grammar.Tree
	any = func(depth int) grammar.Tree {
		x := grammar.Tree{Prod: r.Intn(8) - 2, Token: max(0, r.Intn(5)-3)}
		for range r.Intn(3) {
			if depth > 0 {
				x.Kids = append(x.Kids, any(depth-1))
			}
		}
		return x
	}
	for range 20000 {
		g, l := random(r)
		x := any(3)
		y, e := grammar.Yield(g, l, x)
		if e != api.OK && e != grammar.ErrTree || e == api.OK && len(y) == 0 || !grammar.Equal(x, x) {
			t.Fatal(e, x)
		}
		if e != api.OK {
			continue
		}
		// a tree is found, if no node stands below one of its own production over the same tokens
		all, _ := grammar.Parse(g, g[x.Prod].Left, g[x.Prod].Prio, y, 1000)
		if x = renumbered(x, new(int), g); !repeats(g, x, nil) && len(all) < 1000 && !slices.ContainsFunc(all, func(z grammar.Tree) bool { return grammar.Equal(x, z) }) {
			t.Fatal("not found", g, y, shown(x))
		}
	}
}

// renumbered returns a tree whose tokens are those of its Yield.
func renumbered(t grammar.Tree, at *int, g []grammar.Prod) grammar.Tree {
	if t.Prod == -1 {
		*at++
		return leaf(*at - 1)
	}
	r, kids := grammar.Tree{Prod: t.Prod}, t.Kids
	for _, i := range g[t.Prod].Items {
		if i.Kind == grammar.Word {
			*at++
			continue
		}
		r.Kids = append(r.Kids, renumbered(kids[0], at, g))
		kids = kids[1:]
	}
	return r
}

// repeats reports whether a node stands below another one of the same production over the same tokens.
func repeats(g []grammar.Prod, t grammar.Tree, above []int) bool {
	if t.Prod == -1 {
		return false
	}
	if slices.Contains(above, t.Prod) {
		return true
	}
	if above = append(slices.Clone(above), t.Prod); len(g[t.Prod].Items) > 1 {
		above = nil
	}
	return slices.ContainsFunc(t.Kids, func(k grammar.Tree) bool { return repeats(g, k, above) })
}
