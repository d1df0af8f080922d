package grammar

import "triforium/api"

// Limits of trees whose tokens are asked for.
const (
	maxYield = 10000 // tokens
	maxDepth = 1000  // nodes within each other

	// Beyond these a tree is too large, whatever stands behind: shared memory lets a small value have very many nodes.
	mostNodes = 1 << 24
	mostDepth = 1 << 16
)

// Yield returns the tokens of a tree.
func Yield(g []Prod, l []Token, t Tree) (r []Token, e api.Errno) {
	if Check(g) != api.OK {
		return nil, ErrGrammar
	}
	defer func() {
		if x := recover(); x != nil {
			r, e = nil, failure(x)
		}
	}()
	y := yielder{prods: g, tokens: l}
	y.node(&t, 1)
	if y.large {
		return nil, api.ErrLarge
	}
	return y.list, api.OK
}

// failure returns the error with which a function was left.
func failure(x any) api.Errno {
	if e, ok := x.(api.Errno); ok {
		return e
	}
	return ErrTree
}

// yielder collects the tokens of a tree. Its methods leave with an error by a panic.
type yielder struct {
	prods  []Prod
	tokens []Token
	list   []Token
	nodes  int
	large  bool // it goes on nevertheless, since a wrong node comes ahead of this error
}

// node adds the tokens of a production's node at a depth.
func (y *yielder) node(t *Tree, depth int) {
	y.count(depth)
	if t.Prod < 0 || t.Prod >= len(y.prods) || t.Token != 0 {
		panic(ErrTree)
	}
	kids := t.Kids
	for _, item := range y.prods[t.Prod].Items {
		if item.Kind == Word {
			y.add(Token{Text: item.Text})
			continue
		}
		if len(kids) == 0 {
			panic(ErrTree)
		}
		y.kid(item, &kids[0], depth+1)
		kids = kids[1:]
	}
	if len(kids) > 0 {
		panic(ErrTree)
	}
}

// kid adds the tokens of what stands for a Symbol or a Category.
func (y *yielder) kid(item Item, t *Tree, depth int) {
	if item.Kind == Category {
		y.leaf(item, t, depth)
		return
	}
	if t.Prod < 0 || t.Prod >= len(y.prods) || y.prods[t.Prod].Left != item.Text || y.prods[t.Prod].Prio < item.Prio {
		panic(ErrTree)
	}
	y.node(t, depth)
}

// leaf adds the token of a Category.
func (y *yielder) leaf(item Item, t *Tree, depth int) {
	y.count(depth)
	if t.Prod != -1 || len(t.Kids) > 0 || t.Token < 0 || t.Token >= len(y.tokens) || y.tokens[t.Token].Kind != item.Text {
		panic(ErrTree)
	}
	y.add(y.tokens[t.Token])
}

// count counts a node at a depth.
func (y *yielder) count(depth int) {
	y.nodes++
	if y.nodes > mostNodes || depth > mostDepth {
		panic(api.ErrLarge)
	}
	y.large = y.large || depth > maxDepth
}

// add adds a token.
func (y *yielder) add(t Token) {
	if len(y.list) == maxYield {
		y.large = true
		return
	}
	y.list = append(y.list, t)
}
