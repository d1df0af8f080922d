package grammar_test

import (
	"math"
	"slices"
	"strconv"
	"strings"
	"testing"

	"triforium/api"
	"triforium/grammar"
)

// word, kind and sym return items.
func word(s string) grammar.Item { return grammar.Item{Kind: grammar.Word, Text: s} }
func kind(s string) grammar.Item { return grammar.Item{Kind: grammar.Category, Text: s} }
func sym(s string, prio int) grammar.Item {
	return grammar.Item{Kind: grammar.Symbol, Text: s, Prio: prio}
}

func prod(left string, prio int, items ...grammar.Item) grammar.Prod {
	return grammar.Prod{Left: left, Prio: prio, Items: items}
}

// tokens returns the tokens of a text: NUM stands for digits.
func tokens(s string) []grammar.Token {
	var l []grammar.Token
	for _, w := range strings.Fields(s) {
		t := grammar.Token{Text: w}
		if _, e := strconv.Atoi(w); e == nil {
			t.Kind = "NUM"
		}
		l = append(l, t)
	}
	return l
}

// sums has E -> E + E, with a priority of the right side, and E -> NUM.
func sums(right int) []grammar.Prod {
	return []grammar.Prod{prod("E", 60, sym("E", 60), word("+"), sym("E", right)), prod("E", 1000, kind("NUM"))}
}

// shown returns a tree as a text: p(..) for a production, tN for a token.
func shown(t grammar.Tree) string {
	if t.Prod == -1 {
		return "t" + strconv.Itoa(t.Token)
	}
	var l []string
	for _, k := range t.Kids {
		l = append(l, shown(k))
	}
	return strconv.Itoa(t.Prod) + "(" + strings.Join(l, " ") + ")"
}

func shownAll(l []grammar.Tree) string {
	var r []string
	for _, t := range l {
		r = append(r, shown(t))
	}
	return strings.Join(r, " ")
}

func TestExample(t *testing.T) {
	l, e := grammar.Parse(sums(61), "E", 0, tokens("1 + 2 + 3"), 10)
	if e != api.OK || shownAll(l) != "0(0(1(t0) 1(t2)) 1(t4))" {
		t.Error(shownAll(l), e)
	}
	l, e = grammar.Parse(sums(60), "E", 0, tokens("1 + 2 + 3"), 10)
	if e != api.OK || shownAll(l) != "0(1(t0) 0(1(t2) 1(t4))) 0(0(1(t0) 1(t2)) 1(t4))" {
		t.Error(shownAll(l), e)
	}
}

// wrong returns grammars that are not right.
func wrong() [][]grammar.Prod {
	x, long := word("x"), strings.Repeat("x", grammar.MaxWord+1)
	return [][]grammar.Prod{
		slices.Repeat([]grammar.Prod{prod("E", 0, x)}, 501), {prod("", 0, x)}, {prod(long, 0, x)}, {{Left: "E", Name: long, Items: []grammar.Item{x}}}, {prod("E", -1, x)}, {prod("E", 1001, x)}, {prod("E", 0)}, {prod("E", 0, slices.Repeat([]grammar.Item{x}, 31)...)},
		{prod("E", 0, x), prod("E", 0, grammar.Item{Text: "x"})}, {prod("E", 0, grammar.Item{Kind: 4, Text: "x"})}, {prod("E", 0, grammar.Item{Kind: math.MinInt, Text: "x"})}, {prod("E", 0, word(""))}, {prod("E", 0, kind(""))}, {prod("E", 0, sym("", 0))}, {prod("E", 0, word(long))}, {prod("E", 0, kind(long))}, {prod("E", 0, sym(long, 0))},
		{prod("E", 0, sym("E", -1))}, {prod("E", 0, sym("E", 1001))}, {prod("E", 0, grammar.Item{Kind: grammar.Word, Text: "x", Prio: 1})}, {prod("E", 0, grammar.Item{Kind: grammar.Category, Text: "x", Prio: -1})},
	}
}

func TestCheck(t *testing.T) {
	x, most := word("x"), strings.Repeat("x", grammar.MaxWord)
	for i, g := range [][]grammar.Prod{
		nil, sums(0), slices.Repeat([]grammar.Prod{prod("E", 0, x)}, 500), {{Left: most, Prio: 1000, Name: most, Items: slices.Repeat([]grammar.Item{word(most)}, 30)}}, {prod("E", 0, sym("none", 1000), sym(most, 0), kind(most))},
	} {
		if e := grammar.Check(g); e != api.OK {
			t.Error(i, e)
		}
	}
	l, many := tokens("x"), make([]grammar.Token, 201)
	for i, g := range wrong() {
		if e := grammar.Check(g); e != grammar.ErrGrammar {
			t.Error(i, e)
		}
		if r, e := grammar.Parse(g, "E", -1, many, 0); r != nil || e != grammar.ErrGrammar {
			t.Error(i, e)
		}
		if r, e := grammar.Accepts(g, "E", -1, many); r || e != grammar.ErrGrammar {
			t.Error(i, e)
		}
		if r, e := grammar.Reach(g, "E", -1, many); r != 0 || e != grammar.ErrGrammar {
			t.Error(i, e)
		}
		if w, k, e := grammar.Next(g, "E", -1, many); w != nil || k != nil || e != grammar.ErrGrammar {
			t.Error(i, e)
		}
		if r, e := grammar.Yield(g, l, grammar.Tree{Prod: 7}); r != nil || e != grammar.ErrGrammar {
			t.Error(i, e)
		}
		for _, p := range [][2][]grammar.Prod{{g, nil}, {nil, g}} {
			if r, e := grammar.Merge(p[0], p[1]); r != nil || e != grammar.ErrGrammar {
				t.Error(i, e)
			}
		}
	}
}

func TestQuestionErrors(t *testing.T) {
	g, l, many := sums(61), tokens("1"), make([]grammar.Token, 201)
	for i, c := range []struct {
		prio, most int
		l          []grammar.Token
		e          api.Errno
	}{
		{-1, 1, many, api.ErrRange}, {1001, 1, l, api.ErrRange}, {math.MinInt, 1, l, api.ErrRange}, {0, 0, many, api.ErrCount}, {1000, 1, l, api.OK}, {0, 1, many[:200], api.OK},
	} {
		if _, e := grammar.Accepts(g, "E", c.prio, c.l); e != c.e {
			t.Error(i, e)
		}
		if _, e := grammar.Reach(g, "E", c.prio, c.l); e != c.e {
			t.Error(i, e)
		}
		if _, _, e := grammar.Next(g, "E", c.prio, c.l); e != c.e {
			t.Error(i, e)
		}
		if _, e := grammar.Parse(g, "E", c.prio, c.l, c.most); e != c.e && (c.e != api.OK || e != grammar.ErrNone) {
			t.Error(i, e)
		}
	}
	for i, c := range []struct {
		most int
		text string
		e    api.Errno
	}{{0, "1", api.ErrRange}, {-1, "1", api.ErrRange}, {1001, "1", api.ErrRange}, {0, "+", api.ErrRange}, {1000, "1", api.OK}, {1, "+", grammar.ErrNone}, {1, "", grammar.ErrNone}, {1, "1 +", grammar.ErrNone}} {
		if r, e := grammar.Parse(g, "E", 0, tokens(c.text), c.most); e != c.e || e != api.OK && r != nil {
			t.Error(i, e)
		}
	}
}

// nested has unit productions that lead into each other.
func nested() []grammar.Prod {
	return []grammar.Prod{prod("A", 5, sym("B", 0)), prod("B", 5, sym("A", 0)), prod("A", 9, word("x")), prod("A", 0, sym("A", 0)), prod("B", 1, kind("k"), sym("A", 0)), prod("A", 1, sym("A", 1), sym("A", 2))}
}

func TestParse(t *testing.T) {
	k := grammar.Token{Kind: "k", Text: "x"}
	x := grammar.Token{Text: "x"}
	for i, c := range []struct {
		g      []grammar.Prod
		symbol string
		prio   int
		l      []grammar.Token
		most   int
		want   string
	}{
		{sums(60), "E", 60, tokens("1 + 2"), 9, "0(1(t0) 1(t2))"}, {sums(60), "E", 61, tokens("1 + 2"), 9, ""}, {sums(60), "E", 1000, tokens("1"), 9, "1(t0)"}, {sums(60), "", 0, tokens("1"), 9, ""}, {sums(60), "F", 0, tokens("1"), 9, ""},
		{sums(60), "E", 0, tokens("1 + 2 + 3 + 4"), 2, "0(1(t0) 0(1(t2) 0(1(t4) 1(t6)))) 0(1(t0) 0(0(1(t2) 1(t4)) 1(t6)))"}, {sums(60), "E", 0, []grammar.Token{{Kind: "NUM"}}, 9, "1(t0)"}, {sums(60), "E", 0, []grammar.Token{{Text: "NUM"}}, 9, ""}, {sums(60), "E", 0, []grammar.Token{{"NUM", ""}, {"x", "+"}, {"NUM", ""}}, 9, ""},
		// no production stands below itself over the same tokens
		{nested(), "A", 0, []grammar.Token{x}, 9, "0(1(2())) 0(1(3(2()))) 2() 3(0(1(2()))) 3(2())"}, {nested(), "B", 0, []grammar.Token{x}, 9, "1(2()) 1(3(2()))"}, {nested(), "B", 5, []grammar.Token{x}, 1, "1(2())"}, {nested(), "A", 6, []grammar.Token{x}, 9, "2()"}, {nested(), "B", 0, []grammar.Token{k}, 9, ""},
		{nested(), "A", 9, []grammar.Token{k, x}, 9, ""}, {nested(), "B", 2, []grammar.Token{k, x}, 3, "1(0(4(t0 0(1(2()))))) 1(0(4(t0 0(1(3(2())))))) 1(0(4(t0 2())))"}, {nested(), "A", 2, []grammar.Token{x, x}, 2, "0(1(3(5(0(1(2())) 0(1(2())))))) 0(1(3(5(0(1(2())) 0(1(3(2())))))))"},
		// equal productions, and the kids of Words
		{[]grammar.Prod{prod("E", 0, word("x")), prod("E", 0, word("x")), prod("E", 1, word("x"))}, "E", 0, []grammar.Token{x}, 9, "0() 1() 2()"}, {[]grammar.Prod{prod("E", 0, word("x"), kind("k"), word("x"), kind("k"))}, "E", 0, []grammar.Token{x, k, x, k}, 9, "0(t1 t3)"},
	} {
		r, e := grammar.Parse(c.g, c.symbol, c.prio, c.l, c.most)
		if got := shownAll(r); got != c.want || (e == grammar.ErrNone) != (c.want == "") {
			t.Error(i, got, e)
		}
		ok, e := grammar.Accepts(c.g, c.symbol, c.prio, c.l)
		if ok != (c.want != "") || e != api.OK {
			t.Error(i, ok, e)
		}
	}
}

func TestReach(t *testing.T) {
	brackets := append(sums(61), prod("E", 1000, word("("), sym("E", 0), word(")")))
	endless := []grammar.Prod{prod("E", 0, word("x"), sym("E", 0)), prod("F", 0, word("x"), sym("E", 0)), prod("F", 0, word("y"), sym("G", 5)), prod("G", 4, word("z")), prod("F", 3, word("w")), prod("H", 9, word("x"), sym("F", 4))}
	for i, c := range []struct {
		g            []grammar.Prod
		symbol       string
		prio         int
		text         string
		reach        int
		words, kinds string
	}{
		{brackets, "E", 0, "", 0, "(", "NUM"}, {brackets, "E", 0, "1", 1, "+", ""}, {brackets, "E", 0, "1 +", 2, "(", "NUM"}, {brackets, "E", 0, "( 1", 2, ") +", ""}, {brackets, "E", 61, "1", 1, "", ""}, {brackets, "E", 61, "( 1 )", 3, "", ""}, {brackets, "E", 61, "1 + 2", 1, "", ""},
		{brackets, "E", 0, "1 2 3", 1, "", ""}, {brackets, "E", 0, "+", 0, "", ""}, {brackets, "F", 0, "", -1, "", ""}, {brackets, "F", 0, "1", -1, "", ""}, {brackets, "E", 1000, "( 1 + ( 2", 5, ") +", ""}, {nil, "E", 0, "1", -1, "", ""},
		// what is not productive is no beginning
		{endless, "E", 0, "x", -1, "", ""}, {endless, "F", 0, "x", 0, "", ""}, {endless, "F", 0, "", 0, "w", ""}, {endless, "F", 0, "y", 0, "", ""}, {endless, "G", 5, "", -1, "", ""}, {endless, "G", 4, "z", 1, "", ""}, {endless, "F", 4, "", -1, "", ""}, {endless, "H", 0, "x", -1, "", ""}, {endless, "F", 3, "w x", 1, "", ""},
	} {
		l := tokens(c.text)
		if n, e := grammar.Reach(c.g, c.symbol, c.prio, l); n != c.reach || e != api.OK {
			t.Error(i, n, e)
		}
		w, k, e := grammar.Next(c.g, c.symbol, c.prio, l)
		if strings.Join(w, " ") != c.words || strings.Join(k, " ") != c.kinds || e != api.OK {
			t.Error(i, w, k, e)
		}
	}
	// a text may be a Word and a Category; each once
	g := []grammar.Prod{prod("E", 0, word("b")), prod("E", 0, kind("b")), prod("E", 0, word("a"), word("b")), prod("E", 1, word("b"), kind("x")), prod("E", 0, kind("\xff")), prod("E", 0, kind("B"))}
	w, k, e := grammar.Next(g, "E", 0, nil)
	if !slices.Equal(w, []string{"a", "b"}) || !slices.Equal(k, []string{"B", "b", "\xff"}) || e != api.OK {
		t.Error(w, k, e)
	}
}

func TestMerge(t *testing.T) {
	a, b := sums(61), sums(60)
	b[1].Items = slices.Clone(b[1].Items)
	r, e := grammar.Merge(append(a, a...), b)
	if e != api.OK || len(r) != 3 || r[0].Items[2].Prio != 61 || r[2].Items[2].Prio != 60 {
		t.Error(r, e)
	}
	r[1].Items[0].Text = "other"
	if a[1].Items[0].Text != "NUM" || b[1].Items[0].Text != "NUM" {
		t.Error("memory")
	}
	for i, p := range []grammar.Prod{{Left: "F", Prio: 1, Name: "n", Items: a[0].Items}, {Left: "E", Prio: 2, Name: "n", Items: a[0].Items}, {Left: "E", Prio: 1, Name: "m", Items: a[0].Items}, {Left: "E", Prio: 1, Name: "n", Items: a[0].Items[:2]}} {
		q := grammar.Prod{Left: "E", Prio: 1, Name: "n", Items: a[0].Items}
		if r, e := grammar.Merge([]grammar.Prod{p, q}, []grammar.Prod{q, p}); len(r) != 2 || e != api.OK {
			t.Error(i, r, e)
		}
	}
	var many []grammar.Prod
	for i := range 500 {
		many = append(many, prod("E", i, word("x")))
	}
	if r, e := grammar.Merge(many, many); len(r) != 500 || e != api.OK {
		t.Error(len(r), e)
	}
	if r, e := grammar.Merge(many, sums(0)); r != nil || e != api.ErrCount {
		t.Error(len(r), e)
	}
}

func leaf(n int) grammar.Tree { return grammar.Tree{Prod: -1, Token: n} }
func node(p int, l ...grammar.Tree) grammar.Tree {
	return grammar.Tree{Prod: p, Kids: l}
}

func TestYield(t *testing.T) {
	g := append(sums(61), prod("E", 9, word("("), sym("F", 0), word(")")), prod("F", 0, kind("id"), kind("NUM")), prod("F", 1, sym("F", 0)), prod("F", 2, word("x"), word("y")))
	l := []grammar.Token{{"NUM", "1"}, {"", "+"}, {"NUM", "2"}, {"id", "x"}}
	for i, c := range []struct {
		t    grammar.Tree
		want string
	}{
		{node(0, node(1, leaf(2)), node(1, leaf(0))), "2+1"}, {node(0, node(1, leaf(2)), node(1, leaf(2))), "2+2"}, {node(2, node(3, leaf(3), leaf(0))), "(x1)"}, {node(4, node(4, node(5))), "xy"}, {node(5), "xy"}, {node(1, leaf(0)), "1"},
	} {
		r, e := grammar.Yield(g, l, c.t)
		got := ""
		for _, x := range r {
			got += x.Text
			if x.Kind != "" && !slices.Contains(l, x) {
				t.Error(i, x)
			}
		}
		if got != c.want || e != api.OK {
			t.Error(i, got, e)
		}
	}
	token := leaf(0)
	token.Kids = []grammar.Tree{leaf(0)}
	numbered := node(1, leaf(0))
	numbered.Token = 1
	for i, w := range []grammar.Tree{
		{Prod: -1}, {Prod: 6}, {Prod: math.MinInt}, {}, node(1), node(1, leaf(0), leaf(0)), node(1, node(1, leaf(0))), node(1, leaf(1)), node(1, leaf(3)), node(1, leaf(-1)), node(1, leaf(4)), node(1, token), numbered, node(1, grammar.Tree{Prod: -2}),
		node(0, node(1, leaf(0))), node(0, node(1, leaf(0)), node(0, node(1, leaf(0)), node(1, leaf(0)))), node(0, node(2, node(5)), node(1, leaf(0))), node(0, node(5), node(1, leaf(0))), node(0, leaf(0), leaf(0)), node(0, node(1, leaf(0)), numbered), node(5, leaf(0)), node(2, node(6)), node(2, node(1, leaf(0))),
	} {
		if r, e := grammar.Yield(g, l, w); r != nil || e != grammar.ErrTree {
			t.Error(i, r, e)
		}
	}
}

func TestYieldLarge(t *testing.T) {
	g := []grammar.Prod{prod("A", 0, sym("A", 0)), prod("A", 0, word("x")), prod("A", 0, slices.Repeat([]grammar.Item{sym("A", 0)}, 10)...), prod("A", 0, kind("k"))}
	deep := func(end grammar.Tree, n int) grammar.Tree {
		for range n {
			end = node(0, end)
		}
		return end
	}
	wide := func(end grammar.Tree, n int) grammar.Tree {
		for range n {
			end = node(2, slices.Repeat([]grammar.Tree{end}, 10)...)
		}
		return end
	}
	x, l := node(1), []grammar.Token{{"k", "z"}}
	broken := deep(node(9), 1000)
	for i, c := range []struct {
		t grammar.Tree
		n int
		e api.Errno
	}{
		{deep(x, 999), 1, api.OK}, {deep(x, 1000), 0, api.ErrLarge}, {deep(node(3, leaf(0)), 998), 1, api.OK}, {deep(node(3, leaf(0)), 999), 0, api.ErrLarge}, {wide(x, 4), 10000, api.OK}, {wide(x, 5), 0, api.ErrLarge},
		{node(2, append(slices.Repeat([]grammar.Tree{x}, 9), wide(x, 4))...), 0, api.ErrLarge}, {broken, 0, grammar.ErrTree}, {node(2, append([]grammar.Tree{wide(x, 4)}, slices.Repeat([]grammar.Tree{node(9)}, 9)...)...), 0, grammar.ErrTree}, {wide(wide(x, 5), 5), 0, api.ErrLarge},
	} {
		if r, e := grammar.Yield(g, l, c.t); len(r) != c.n || e != c.e {
			t.Error(i, len(r), e)
		}
	}
}

func TestEqual(t *testing.T) {
	a := node(0, node(1, leaf(0)), leaf(1))
	l := []grammar.Tree{a, node(0, node(1, leaf(0))), node(0, node(1, leaf(1)), leaf(1)), node(1, node(1, leaf(0)), leaf(1)), node(0, leaf(1), node(1, leaf(0))), node(0), leaf(0), {Prod: math.MaxInt, Token: -1}}
	for i := range l {
		for j := range l {
			if grammar.Equal(l[i], l[j]) != (i == j) {
				t.Error(i, j)
			}
		}
	}
	if !grammar.Equal(node(3), grammar.Tree{Prod: 3, Kids: []grammar.Tree{}}) {
		t.Error("nil and empty")
	}
}

// TestMemory changes a result: the trees of it share nothing.
func TestMemory(t *testing.T) {
	g := sums(60)
	l := tokens("1 + 2 + 3 + 4 + 5")
	a, _ := grammar.Parse(g, "E", 0, l, 100)
	b, _ := grammar.Parse(g, "E", 0, l, 100)
	var spoil func(t *grammar.Tree)
	spoil = func(t *grammar.Tree) {
		for i := range t.Kids {
			spoil(&t.Kids[i])
			t.Kids[i] = grammar.Tree{Prod: 77}
		}
	}
	for i := range a {
		if !grammar.Equal(a[i], b[i]) {
			t.Fatal(i)
		}
		spoil(&a[i])
	}
}

// TestLargest asks for trees of as many tokens as there may be.
func TestLargest(t *testing.T) {
	pairs := []grammar.Prod{prod("E", 0, sym("E", 0), sym("E", 0)), prod("E", 0, word("x")), prod("E", 0, sym("E", 0))}
	l := slices.Repeat(tokens("x"), 200)
	r, e := grammar.Parse(pairs, "E", 0, l, 1000)
	if e != api.OK || len(r) != 1000 {
		t.Fatal(len(r), e)
	}
	for i := range r {
		if y, e := grammar.Yield(pairs, l, r[i]); e != api.OK || !slices.Equal(y, l) || i > 0 && grammar.Equal(r[i], r[i-1]) {
			t.Fatal(i, e)
		}
	}
	var units []grammar.Prod
	for i := range 499 {
		units = append(units, prod("E", i, sym("E", i%7)))
	}
	r, e = grammar.Parse(append(units, prod("E", 1000, word("x"))), "E", 0, l[:1], 1000)
	if e != api.OK || len(r) != 1000 {
		t.Fatal(len(r), e)
	}
}
