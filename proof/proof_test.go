package proof_test

import (
	"math"
	"slices"
	"strings"
	"testing"

	"triforium/api"
	"triforium/proof"
	"triforium/sort"
	"triforium/term"
	"triforium/types"
)

func prop() api.Type { return types.Prop() }

func nat() api.Type { return api.Type{Op: api.TCon, Name: "nat"} }

func free(name string, t api.Type) api.Term { return api.Term{Op: api.Free, Name: name, Type: t} }

func app(f, a api.Term) api.Term { return api.Term{Op: api.App, Kids: []api.Term{f, a}} }

func abs(name string, t api.Type, body api.Term) api.Term {
	return api.Term{Op: api.Abs, Name: name, Type: t, Kids: []api.Term{body}}
}

func bound(n int) api.Term { return api.Term{Op: api.Bound, Num: n} }

func a() api.Term { return free("A", prop()) }
func b() api.Term { return free("B", prop()) }

func assume(t api.Term) api.Proof { return api.Proof{Op: api.Assume, Term: t} }
func refl(t api.Term) api.Proof   { return api.Proof{Op: api.Reflexive, Term: t} }

func node(op int, kids ...api.Proof) api.Proof { return api.Proof{Op: op, Kids: kids} }

func with(op int, t api.Term, kids ...api.Proof) api.Proof {
	return api.Proof{Op: op, Term: t, Kids: kids}
}

func inst(i api.Inst, p api.Proof) api.Proof {
	return api.Proof{Op: api.Instantiate, Inst: i, Kids: []api.Proof{p}}
}

func gen(n int, typeNames, termNames []string, p api.Proof) api.Proof {
	return api.Proof{Op: api.Generalize, Num: n, TypeNames: typeNames, TermNames: termNames, Kids: []api.Proof{p}}
}

// each returns a proof of each kind.
func each() []api.Proof {
	p := assume(a())
	return []api.Proof{
		{Op: api.ByAxiom, Name: "ax"}, {Op: api.ByOracle, Name: "or", Term: a()}, p, with(api.ImpIntro, b(), p), node(api.ImpElim, p, p),
		with(api.AllIntro, a(), p), with(api.AllElim, a(), p), refl(a()), node(api.Symmetric, p), node(api.Transitive, p, p),
		node(api.Combination, p, p), with(api.Abstraction, a(), p), with(api.Beta, a()), with(api.Eta, a()), node(api.EqIntro, p, p), node(api.EqElim, p, p),
		inst(api.Inst{Types: []api.TypeBind{{Name: "a", To: nat()}}, Terms: []api.TermBind{{Name: "x", Index: 3, To: a()}}}, p),
		gen(7, []string{"a", "b"}, []string{"x"}, p),
	}
}

// wide returns a term with a number of nodes, which is odd, with a small depth.
func wide(nodes int) api.Term {
	if nodes == 1 {
		return a()
	}
	half := (nodes - 1) / 2
	if half%2 == 0 {
		half--
	}
	return app(wide(half), wide(nodes-1-half))
}

// tall returns a term with so many nodes within each other.
func tall(depth int) api.Term {
	t := a()
	for range depth - 1 {
		t = abs("x", prop(), t)
	}
	return t
}

// tallType returns a type with so many nodes within each other.
func tallType(depth int) api.Type {
	t := nat()
	for range depth - 1 {
		t = api.Type{Op: api.TCon, Name: "list", Args: []api.Type{t}}
	}
	return t
}

// wideType returns a type with a number of nodes.
func wideType(nodes int) api.Type {
	t := api.Type{Op: api.TCon, Name: "tuple"}
	for range nodes - 1 {
		t.Args = append(t.Args, nat())
	}
	return t
}

// chain returns a proof with so many nodes within each other.
func chain(depth int) api.Proof {
	p := refl(a())
	for range depth - 1 {
		p = node(api.Symmetric, p)
	}
	return p
}

// exactly returns a proof with a number of nodes, which share memory.
func exactly(nodes int) api.Proof {
	switch {
	case nodes == 1:
		return refl(a())
	case nodes%2 == 0:
		return node(api.Symmetric, exactly(nodes-1))
	}
	p := exactly((nodes - 1) / 2)
	return node(api.Transitive, p, p)
}

func TestCheckForms(t *testing.T) {
	for i, p := range each() {
		if p.Op != i+1 {
			t.Fatal("each", i)
		}
		if e := proof.Check(p); e != api.OK {
			t.Error("kind", p.Op, e)
		}
		for k, q := range []api.Proof{p, p, p, p, p, p, p} {
			switch k {
			case 0:
				q.Name = "other"
			case 1:
				q.Term = b()
			case 2:
				q.Inst.Types = []api.TypeBind{{}}
			case 3:
				q.Inst.Terms = []api.TermBind{{}}
			case 4:
				q.TypeNames = []string{""}
			case 5:
				q.TermNames = []string{""}
			case 6:
				q.Num = -1
			}
			has := [][]int{{1, 2}, {2, 3, 4, 6, 7, 8, 12, 13, 14}, {17}, {17}, {18}, {18}, {18}}[k]
			want := api.ErrForm
			if slices.Contains(has, p.Op) {
				want = api.OK
			}
			if e := proof.Check(q); e != want {
				t.Error("kind", p.Op, "field", k, e)
			}
		}
		more, less := p, p
		more.Kids = append(slices.Clone(p.Kids), assume(a()))
		if e := proof.Check(more); e != api.ErrForm {
			t.Error("more Kids", p.Op, e)
		}
		if len(p.Kids) > 0 {
			less.Kids = p.Kids[1:]
			if e := proof.Check(less); e != api.ErrForm {
				t.Error("fewer Kids", p.Op, e)
			}
		}
	}
}

func TestCheckErrors(t *testing.T) {
	large, high := wide(api.MaxTerm+1), tall(api.MaxDepth+1)
	zero := with(api.Symmetric, api.Term{Kids: []api.Term{}}, assume(a()))
	zero.TypeNames, zero.Inst.Types = []string{}, []api.TypeBind{}
	zero.Term.Type.Args = []api.Type{}
	for i, c := range []struct {
		p api.Proof
		e api.Errno
	}{
		{api.Proof{}, proof.ErrKind}, {api.Proof{Op: -1}, proof.ErrKind}, {api.Proof{Op: 19, Name: "x", Kids: each()}, proof.ErrKind}, {api.Proof{Op: math.MaxInt}, proof.ErrKind}, {api.Proof{Op: math.MinInt}, proof.ErrKind},
		{zero, api.OK}, {assume(api.Term{}), api.OK}, {assume(api.Term{Op: -5, Num: math.MinInt}), api.OK},
		{assume(large), api.ErrLarge}, {assume(wide(api.MaxTerm - 1)), api.OK}, {assume(high), api.ErrLarge}, {assume(tall(api.MaxDepth)), api.OK},
		{inst(api.Inst{Types: []api.TypeBind{{To: tallType(api.MaxDepth)}}}, refl(a())), api.OK}, {inst(api.Inst{Types: []api.TypeBind{{To: tallType(api.MaxDepth + 1)}}}, refl(a())), api.ErrLarge},
		{inst(api.Inst{Types: []api.TypeBind{{To: wideType(api.MaxType)}}}, refl(a())), api.OK}, {inst(api.Inst{Types: []api.TypeBind{{To: wideType(api.MaxType + 1)}}}, refl(a())), api.ErrLarge},
		{inst(api.Inst{Terms: []api.TermBind{{To: large}}}, refl(a())), api.ErrLarge}, {inst(api.Inst{Terms: []api.TermBind{{To: a()}, {To: high}}}, refl(a())), api.ErrLarge},
		{inst(api.Inst{Terms: make([]api.TermBind, 1000)}, refl(a())), api.OK}, {gen(math.MinInt, []string{"", "", "!"}, nil, refl(a())), api.OK},
		// a node ahead of its Kids, the kind ahead of the form, this ahead of sizes
		{node(api.Symmetric, assume(a()), api.Proof{}), api.ErrForm}, {node(api.Symmetric, api.Proof{}), proof.ErrKind}, {node(api.Transitive, assume(large), api.Proof{}), api.ErrLarge},
		{with(api.Assume, large, assume(a())), api.ErrForm}, {with(api.ImpIntro, large, api.Proof{}), api.ErrLarge}, {with(99, large, assume(a())), proof.ErrKind},
		{node(api.Transitive, node(api.Symmetric, api.Proof{Op: api.ByAxiom, Num: 1}), api.Proof{}), api.ErrForm}, {with(api.Symmetric, large, assume(a())), api.ErrForm},
	} {
		if e := proof.Check(c.p); e != c.e {
			t.Error(i, e, c.e)
		}
	}
}

func TestCheckLimits(t *testing.T) {
	most := exactly(api.MaxProof)
	if n, _ := proof.Size(most); n != api.MaxProof {
		t.Fatal("exactly", n)
	}
	deep := chain(proof.MaxNest + 1)
	huge := refl(a())
	for range 80 { // more nodes than there are numbers
		huge = node(api.Transitive, huge, huge)
	}
	deepAndHuge := chain(proof.MaxNest + 5)
	deepAndHuge = node(api.Transitive, deepAndHuge, huge)
	for i, c := range []struct {
		p api.Proof
		e api.Errno
	}{
		{most, api.OK}, {node(api.Symmetric, most), api.ErrCount}, {node(99, most), api.ErrCount}, {huge, api.ErrCount},
		{chain(proof.MaxNest), api.OK}, {deep, api.ErrDepth}, {node(0, chain(proof.MaxNest)), api.ErrDepth}, {deepAndHuge, api.ErrCount},
	} {
		if e := proof.Check(c.p); e != c.e {
			t.Error(i, e, c.e)
		}
	}
	if n, d := proof.Size(chain(40000)); n != 40000 || d != 40000 {
		t.Error("Size", n, d)
	}
	for i, e := range []api.Errno{second(proof.Lines(deep)), second(proof.Shorter(deep)), second(proof.Text(deep))} {
		if e != api.ErrDepth {
			t.Error(i, e)
		}
	}
	for i, e := range []api.Errno{second(proof.Lines(huge)), second(proof.Shorter(huge)), second(proof.Text(huge))} {
		if e != api.ErrCount {
			t.Error(i, e)
		}
	}
}

func second[T any](_ T, e api.Errno) api.Errno { return e }

func must[T any](x T, e api.Errno) T {
	if e != api.OK {
		panic(e)
	}
	return x
}

func TestSize(t *testing.T) {
	p := node(api.Transitive, refl(a()), node(api.Symmetric, node(api.Symmetric, refl(b()))))
	for i, c := range []struct {
		p            api.Proof
		nodes, depth int
	}{{api.Proof{}, 1, 1}, {p, 5, 4}, {node(-3, p, p, p), 16, 5}} {
		if n, d := proof.Size(c.p); n != c.nodes || d != c.depth {
			t.Error(i, n, d)
		}
	}
}

func TestEqual(t *testing.T) {
	all := append(each(), api.Proof{}, node(0, assume(a())), node(0, assume(b())), node(0, api.Proof{}), assume(b()),
		inst(api.Inst{Types: []api.TypeBind{{Name: "a", Index: 1, To: nat()}}}, assume(a())), inst(api.Inst{Types: []api.TypeBind{{Name: "a", Index: 2, To: nat()}}}, assume(a())),
		inst(api.Inst{Types: []api.TypeBind{{Name: "a", Index: 1, To: prop()}}}, assume(a())), inst(api.Inst{Terms: []api.TermBind{{Name: "a", Index: 1, To: a()}}}, assume(a())),
		gen(1, []string{"x"}, nil, assume(a())), gen(1, nil, []string{"x"}, assume(a())), gen(2, nil, []string{"x"}, assume(a())), gen(1, nil, []string{"x", "x"}, assume(a())))
	for i, p := range all {
		for k, q := range all {
			if proof.Equal(p, q) != (i == k) {
				t.Error(i, k)
			}
		}
	}
	x, y := abs("x", nat(), bound(0)), abs("y", nat(), bound(0))
	if !proof.Equal(node(9, refl(x)), node(9, refl(y))) || proof.Equal(refl(x), refl(abs("x", prop(), bound(0)))) {
		t.Error("names of abstractions")
	}
	empty := api.Proof{Op: 8, Term: a(), TypeNames: []string{}, Inst: api.Inst{Terms: []api.TermBind{}}, Kids: []api.Proof{}}
	if !proof.Equal(empty, refl(a())) {
		t.Error("empty lists")
	}
}

func TestNamesAndCounts(t *testing.T) {
	ax := func(name string) api.Proof { return api.Proof{Op: api.ByAxiom, Name: name} }
	or := func(name string) api.Proof {
		return api.Proof{Op: api.ByOracle, Name: name, Kids: []api.Proof{ax("inner")}}
	}
	p := node(100, ax("b"), node(-1, ax("B"), or("z"), ax("b")), ax(""), or("a"), api.Proof{Op: 0, Name: "none"}, api.Proof{Op: 18}, api.Proof{Op: 19})
	x, o := proof.Names(p)
	if !slices.Equal(x, []string{"", "B", "b", "inner"}) || !slices.Equal(o, []string{"a", "z"}) {
		t.Error(x, o)
	}
	if c := proof.Counts(p); c != [19]int{0: 1, 1: 6, 2: 2, 18: 1} {
		t.Error(c)
	}
	if x, o := proof.Names(api.Proof{}); len(x)+len(o) != 0 {
		t.Error(x, o)
	}
	var all [19]int
	for _, q := range each() {
		for k, n := range proof.Counts(q) {
			all[k] += n
		}
	}
	want := [19]int{3: 17 + 1}
	for k := 1; k < 19; k++ {
		if k != 3 {
			want[k] = 1
		}
	}
	if all != want {
		t.Error(all, want)
	}
}

func TestLines(t *testing.T) {
	p := assume(a())
	l := must(proof.Lines(node(api.Transitive, p, p)))
	if len(l) != 2 || !proof.Equal(l[0].Node, p) || len(l[0].Kids) != 0 || l[1].Node.Op != api.Transitive || !slices.Equal(l[1].Kids, []int{0, 0}) || len(l[1].Node.Kids) != 0 {
		t.Error(l)
	}
	// the first one of equal ones stands for all; the order is that in which they are left
	x, y := refl(abs("x", nat(), bound(0))), refl(abs("y", nat(), bound(0)))
	q := node(api.Transitive, node(api.Symmetric, x), node(api.Transitive, y, node(api.Symmetric, p)))
	l = must(proof.Lines(q))
	var ops []int
	for _, z := range l {
		ops = append(ops, z.Node.Op)
	}
	if !slices.Equal(ops, []int{api.Reflexive, api.Symmetric, api.Assume, api.Symmetric, api.Transitive, api.Transitive}) || l[0].Node.Term.Name != "x" {
		t.Error(ops, l[0])
	}
	if !slices.Equal(l[4].Kids, []int{0, 3}) || !slices.Equal(l[5].Kids, []int{1, 4}) || !slices.Equal(l[3].Kids, []int{2}) {
		t.Error(l)
	}
	if l, e := proof.Lines(api.Proof{}); e != proof.ErrKind || len(l) != 0 {
		t.Error(l, e)
	}
	if l := must(proof.Lines(exactly(1<<17 - 1))); len(l) != 17 {
		t.Error(len(l))
	}
	// texts that could be taken for others
	for i, c := range [][2]api.Proof{
		{gen(1, []string{"a", "b"}, nil, p), gen(1, []string{"a"}, []string{"b"}, p)}, {gen(1, []string{"a 1", "b"}, nil, p), gen(1, []string{"a", "1 b"}, nil, p)},
		{gen(11, nil, nil, p), gen(1, nil, nil, p)}, {api.Proof{Op: 1, Name: "1"}, api.Proof{Op: 1, Name: "11"}},
	} {
		if l := must(proof.Lines(node(api.Transitive, c[0], c[1]))); !slices.Equal(l[len(l)-1].Kids, []int{len(l) - 3, len(l) - 2}) {
			t.Error(i, l)
		}
	}
}

func TestJoin(t *testing.T) {
	line := func(p api.Proof, kids ...int) proof.Line { return proof.Line{Node: p, Kids: kids} }
	r := line(refl(a()))
	p, e := proof.Join([]proof.Line{r, line(node(0, assume(a())))})
	if e != api.ErrForm || p.Op != 0 {
		t.Error(e)
	}
	p, e = proof.Join([]proof.Line{r, line(assume(b())), line(node(api.Transitive), 1, 0)})
	if e != api.OK || !proof.Equal(p, node(api.Transitive, assume(b()), refl(a()))) {
		t.Error(p, e)
	}
	doubled := []proof.Line{r}
	for i := range 20 {
		doubled = append(doubled, line(node(api.Transitive), i, i))
	}
	long := []proof.Line{r}
	for i := range proof.MaxNest {
		long = append(long, line(node(api.Symmetric), i))
	}
	for i, c := range []struct {
		l []proof.Line
		e api.Errno
	}{
		{nil, api.ErrCount}, {make([]proof.Line, api.MaxProof+1), api.ErrCount}, {make([]proof.Line, api.MaxProof), proof.ErrKind}, {[]proof.Line{r}, api.OK}, {[]proof.Line{line(api.Proof{}), r}, api.OK},
		{[]proof.Line{line(refl(a()), 0)}, proof.ErrLine}, {[]proof.Line{r, line(node(api.Symmetric), 1)}, proof.ErrLine}, {[]proof.Line{r, line(node(api.Symmetric), -1)}, proof.ErrLine}, {[]proof.Line{r, line(node(api.Symmetric), math.MaxInt)}, proof.ErrLine},
		{[]proof.Line{line(refl(a()), 7), line(node(api.Symmetric, refl(a())))}, proof.ErrLine}, {[]proof.Line{line(node(api.Symmetric, refl(a())), 9)}, api.ErrForm}, {[]proof.Line{line(node(api.Symmetric, refl(a()))), line(refl(a()), 7)}, api.ErrForm},
		{[]proof.Line{line(refl(a()), 7), r}, proof.ErrLine}, {[]proof.Line{r, line(node(api.Symmetric), 0, 0)}, api.ErrForm}, {[]proof.Line{r, line(node(api.Symmetric))}, api.ErrForm}, {[]proof.Line{r, line(node(77), 0, 0, 0)}, proof.ErrKind},
		{doubled, api.ErrLarge}, {doubled[:20], api.OK}, {append(slices.Clone(doubled), r), api.OK}, {append(slices.Clone(doubled), line(api.Proof{}, 20)), api.ErrLarge},
		{long, api.ErrDepth}, {long[:proof.MaxNest], api.OK}, {append(slices.Clone(long), line(api.Proof{}, len(long)-1)), api.ErrDepth}, {append(slices.Clone(long), line(api.Proof{}, 5)), proof.ErrKind},
		{[]proof.Line{line(assume(wide(api.MaxTerm + 1)))}, api.ErrLarge},
	} {
		p, e := proof.Join(c.l)
		if e != c.e || e != api.OK && !proof.Equal(p, api.Proof{}) {
			t.Error(i, e, c.e)
		}
	}
}

func TestShorter(t *testing.T) {
	p, r, s := assume(a()), refl(a()), refl(b())
	x := free("x", nat())
	f := free("f", types.Fun(nat(), nat()))
	sym := func(p api.Proof) api.Proof { return node(api.Symmetric, p) }
	trans := func(p, q api.Proof) api.Proof { return node(api.Transitive, p, q) }
	odd := api.Term{Op: api.Const, Name: "x", Type: nat()}
	for i, c := range []struct{ p, q api.Proof }{
		{sym(sym(p)), p}, {sym(p), sym(p)}, {sym(sym(sym(p))), sym(p)}, {sym(sym(sym(sym(p)))), p}, {sym(r), r}, {sym(sym(r)), r},
		{trans(r, p), p}, {trans(p, r), p}, {trans(r, s), s}, {trans(s, r), r}, {trans(p, p), trans(p, p)}, {trans(sym(r), sym(sym(p))), p},
		{node(api.EqElim, r, p), p}, {node(api.EqElim, p, r), node(api.EqElim, p, r)}, {node(api.EqElim, r, s), s}, {node(api.ImpElim, r, p), node(api.ImpElim, r, p)}, {node(api.EqIntro, r, r), node(api.EqIntro, r, r)},
		{inst(api.Inst{}, p), p}, {inst(api.Inst{Types: []api.TypeBind{}, Terms: []api.TermBind{}}, sym(sym(p))), p},
		{inst(api.Inst{Types: []api.TypeBind{{}}}, p), inst(api.Inst{Types: []api.TypeBind{{}}}, p)}, {inst(api.Inst{Terms: []api.TermBind{{}}}, r), inst(api.Inst{Terms: []api.TermBind{{}}}, r)},
		{gen(3, nil, nil, p), p}, {gen(-3, []string{}, []string{}, r), r}, {gen(0, []string{"a"}, nil, p), gen(0, []string{"a"}, nil, p)}, {gen(0, nil, []string{"a"}, p), gen(0, nil, []string{"a"}, p)},
		{node(api.Combination, refl(f), refl(x)), refl(app(f, x))}, {node(api.Combination, sym(refl(f)), inst(api.Inst{}, refl(x))), refl(app(f, x))}, {node(api.Combination, p, r), node(api.Combination, p, r)}, {node(api.Combination, r, p), node(api.Combination, r, p)},
		{with(api.Abstraction, x, refl(app(f, x))), refl(abs("x", nat(), app(f, bound(0))))}, {with(api.Abstraction, x, refl(abs("y", nat(), app(f, x)))), refl(abs("x", nat(), abs("y", nat(), app(f, bound(1)))))},
		{with(api.Abstraction, odd, refl(a())), with(api.Abstraction, odd, refl(a()))}, {with(api.Abstraction, x, p), with(api.Abstraction, x, p)},
		{with(api.AllElim, x, with(api.AllIntro, x, p)), p}, {with(api.AllElim, a(), with(api.AllIntro, x, p)), with(api.AllElim, a(), with(api.AllIntro, x, p))}, {with(api.AllElim, odd, with(api.AllIntro, odd, p)), with(api.AllElim, odd, with(api.AllIntro, odd, p))},
		{with(api.AllElim, x, gen(1, nil, nil, with(api.AllIntro, x, sym(sym(p))))), p}, {with(api.AllIntro, x, with(api.AllElim, x, p)), with(api.AllIntro, x, with(api.AllElim, x, p))}, {with(api.AllElim, x, p), with(api.AllElim, x, p)},
		{with(api.ImpIntro, b(), sym(sym(p))), with(api.ImpIntro, b(), p)}, {node(api.Combination, node(api.Combination, refl(f), refl(x)), refl(x)), refl(app(app(f, x), x))},
		{with(api.Abstraction, x, node(api.Combination, refl(f), refl(x))), refl(abs("x", nat(), app(f, bound(0))))},
	} {
		q, e := proof.Shorter(c.p)
		if e != api.OK || !proof.Equal(q, c.q) {
			t.Error(i, e, q)
		}
	}
	if q := must(proof.Shorter(with(api.Abstraction, x, refl(x)))); q.Term.Name != "x" {
		t.Error("the name of the abstraction", q)
	}
	for _, q := range each() {
		if s, e := proof.Shorter(q); e != api.OK || q.Op != api.Symmetric && q.Op != api.EqElim && !proof.Equal(s, q) {
			t.Error(q.Op, e)
		}
	}
	for i, q := range []api.Proof{{}, node(api.Symmetric), node(api.Symmetric, api.Proof{})} {
		if s, e := proof.Shorter(q); e != proof.Check(q) || e == api.OK || s.Op != 0 {
			t.Error(i, e)
		}
	}
}

// What was returned shares no memory with what was given, or within itself.
func TestOwnMemory(t *testing.T) {
	x := free("x", api.Type{Op: api.TFree, Name: "a", Sort: []string{"c"}})
	p := node(api.Transitive, refl(x), gen(1, []string{"a"}, []string{"x"}, inst(api.Inst{Types: []api.TypeBind{{Name: "a", To: x.Type}}}, refl(x))))
	before := must(proof.Text(p))
	l := must(proof.Lines(p))
	joined := must(proof.Join([]proof.Line{{Node: refl(x)}, {Node: node(api.Transitive), Kids: []int{0, 0}}}))
	short := must(proof.Shorter(node(api.Transitive, node(api.Combination, refl(x), refl(x)), p)))
	joined.Kids[0].Term.Type.Sort[0] = "other"
	if joined.Kids[1].Term.Type.Sort[0] != "c" {
		t.Error("within a result")
	}
	for i := range l {
		if l[i].Node.Op == api.Reflexive {
			l[i].Node.Term.Type.Sort[0] = "other"
		}
		if l[i].Node.Op == api.Generalize {
			l[i].Node.TypeNames[0], l[i].Node.TermNames[0] = "other", "other"
		}
		if l[i].Node.Op == api.Instantiate {
			l[i].Node.Inst.Types[0].To.Sort[0] = "other"
		}
	}
	for _, k := range short.Kids {
		if k.Op == api.Reflexive {
			k.Term.Kids[0].Type.Sort[0] = "other"
			if k.Term.Kids[1].Type.Sort[0] != "c" {
				t.Error("within Shorter")
			}
		}
	}
	if must(proof.Text(p)) != before {
		t.Error("the argument has changed")
	}
}

func TestTexts(t *testing.T) {
	p := "(assume [$A:prop])"
	want := []string{
		"(axiom ax)", "(oracle or [$A:prop])", p, "(impI [$B:prop] " + p + ")", "(impE " + p + " " + p + ")", "(allI [$A:prop] " + p + ")", "(allE [$A:prop] " + p + ")", "(refl [$A:prop])",
		"(sym " + p + ")", "(trans " + p + " " + p + ")", "(comb " + p + " " + p + ")", "(abs [$A:prop] " + p + ")", "(beta [$A:prop])", "(eta [$A:prop])", "(eqI " + p + " " + p + ")", "(eqE " + p + " " + p + ")",
		"(inst <a.0=[nat] | x.3=[$A:prop]> " + p + ")", "(gen 7 <a b | x> " + p + ")",
	}
	for i, q := range each() {
		wantText(t, q, want[i])
	}
	two := api.Inst{Types: []api.TypeBind{{Name: "a.b", Index: 12, To: nat()}, {Name: "a", To: types.Fun(nat(), prop())}}, Terms: []api.TermBind{{Name: "x", To: abs("y", nat(), bound(0))}, {Name: "y.1", Index: math.MaxInt, To: b()}}}
	for _, c := range []struct {
		p api.Proof
		s string
	}{
		{with(api.ImpIntro, a(), assume(a())), "(impI [$A:prop] (assume [$A:prop]))"}, {inst(api.Inst{}, assume(a())), "(inst < | > " + p + ")"}, {gen(0, nil, nil, assume(a())), "(gen 0 < | > " + p + ")"},
		{inst(api.Inst{Types: two.Types[:1]}, assume(a())), "(inst <a.b.12=[nat] | > " + p + ")"}, {inst(api.Inst{Terms: two.Terms[:1]}, assume(a())), "(inst < | x.0=[(\\y:nat . #0)]> " + p + ")"},
		{inst(two, assume(a())), "(inst <a.b.12=[nat] a.0=[fun(nat, prop)] | x.0=[(\\y:nat . #0)] y.1.9223372036854775807=[$B:prop]> " + p + ")"},
		{gen(math.MaxInt, nil, []string{"x'", "_"}, assume(a())), "(gen 9223372036854775807 < | x' _> " + p + ")"},
	} {
		wantText(t, c.p, c.s)
	}
}

func wantText(t *testing.T, p api.Proof, s string) {
	t.Helper()
	if got, e := proof.Text(p); e != api.OK || got != s {
		t.Error(e, got, s)
	}
	if q, e := proof.Read(s); e != api.OK || !proof.Equal(p, q) {
		t.Error(e, s)
	}
}

func TestTextErrors(t *testing.T) {
	long := strings.Repeat("x", 41)
	bad := api.Term{Op: api.Free, Name: "x", Type: api.Type{Op: 9}}
	var wordy api.Type // its text has more bytes than a text may have
	for range 1000 {
		wordy.Args = append(wordy.Args, api.Type{Op: api.TCon, Name: strings.Repeat("n", 40)})
	}
	wordy.Op, wordy.Name = api.TCon, "t"
	ax := func(s string) api.Proof { return api.Proof{Op: api.ByAxiom, Name: s} }
	typ := func(t api.Type) api.Proof { return inst(api.Inst{Types: []api.TypeBind{{Name: "a", To: t}}}, ax("x")) }
	trm := func(t api.Term) api.Proof { return inst(api.Inst{Terms: []api.TermBind{{Name: "a", To: t}}}, ax("x")) }
	for i, c := range []struct {
		p api.Proof
		e api.Errno
	}{
		{api.Proof{}, proof.ErrKind}, {node(api.Transitive, ax(""), api.Proof{}), proof.ErrKind}, {ax(""), api.ErrForm}, {ax("1"), api.ErrForm}, {ax(long), api.ErrForm}, {ax("a b"), api.ErrForm}, {ax(long[:40]), api.OK},
		{api.Proof{Op: api.ByOracle, Term: a()}, api.ErrForm}, {api.Proof{Op: api.ByOracle, Name: "1", Term: bound(0)}, api.ErrForm}, {api.Proof{Op: api.ByOracle, Name: "o", Term: bound(0)}, term.ErrLoose},
		{gen(-1, nil, nil, ax("x")), api.ErrForm}, {gen(0, []string{"a", ""}, nil, ax("x")), api.ErrForm}, {gen(0, nil, []string{"?"}, ax("x")), api.ErrForm}, {gen(0, nil, nil, ax("?")), api.ErrForm},
		{inst(api.Inst{Types: []api.TypeBind{{Name: "", To: nat()}}}, ax("x")), api.ErrForm}, {inst(api.Inst{Types: []api.TypeBind{{Name: "a", Index: -1, To: nat()}}}, ax("x")), api.ErrForm}, {inst(api.Inst{Terms: []api.TermBind{{Name: "a", Index: math.MinInt, To: a()}}}, ax("x")), api.ErrForm},
		{inst(api.Inst{Types: []api.TypeBind{{Name: "a", To: api.Type{Op: api.TVar, Name: "a", Index: -1}}}, Terms: []api.TermBind{{Name: "1", To: a()}}}, ax("x")), api.ErrForm},
		{typ(api.Type{}), api.ErrForm}, {typ(api.Type{Op: api.TVar, Name: "a", Index: -1}), api.ErrRange}, {typ(wordy), api.ErrLarge}, {typ(api.Type{Op: api.TFree, Name: "a", Sort: make([]string, 21)}), api.ErrForm},
		{trm(bad), api.ErrForm}, {trm(bound(3)), term.ErrLoose}, {assume(bad), api.ErrForm}, {assume(free("x", wordy)), api.ErrLarge}, {assume(api.Term{Op: api.Var, Name: "x", Num: 1000001, Type: nat()}), api.ErrRange},
		{inst(api.Inst{Types: []api.TypeBind{{Name: "a", To: wordy}}, Terms: []api.TermBind{{Name: "a", To: bound(0)}}}, ax("x")), api.ErrLarge}, {inst(api.Inst{Types: []api.TypeBind{{Name: "a", To: nat()}}, Terms: []api.TermBind{{Name: "a", To: bound(0)}, {Name: "b", To: bad}}}, ax("1")), term.ErrLoose},
		{with(api.ImpIntro, bound(0), ax("")), term.ErrLoose}, {node(api.Transitive, with(api.ImpIntro, a(), ax("")), assume(bound(0))), api.ErrForm}, {node(api.Transitive, assume(bound(0)), ax("")), term.ErrLoose},
	} {
		s, e := proof.Text(c.p)
		if e != c.e || (s == "") == (e == api.OK) {
			t.Error(i, e, c.e, s)
		}
	}
}

// sized returns a proof whose text has a number of bytes, which is at least 26.
func sized(bytes int) api.Proof {
	left := bytes - len("(gen 0 < | > (axiom x))")
	var names []string
	for left > 41 {
		names = append(names, strings.Repeat("a", 39))
		left -= 40 // with a space
	}
	names = append(names, strings.Repeat("b", min(left, 39)))
	if left > 39 {
		names[len(names)-1] += "b"
	}
	if left > 40 {
		names[0] += "a"
	}
	return gen(0, names, nil, api.Proof{Op: api.ByAxiom, Name: "x"})
}

func TestTextLimit(t *testing.T) {
	most := 10 * api.MaxText
	for n := most - 100; n < most+100; n++ {
		p := sized(n)
		s, e := proof.Text(p)
		if n > most {
			if s != "" || e != api.ErrLarge {
				t.Fatal(n, len(s), e)
			}
			continue
		}
		if len(s) != n || e != api.OK {
			t.Fatal(n, len(s), e)
		}
		if q, e := proof.Read(s); e != api.OK || !proof.Equal(p, q) {
			t.Fatal(n, e)
		}
	}
	s := must(proof.Text(sized(most)))
	if _, e := proof.Text(node(api.Transitive, sized(most), assume(bound(0)))); e != term.ErrLoose {
		t.Error("what follows is looked at, too", e)
	}
	if _, e := proof.Read(s + " "); e != api.ErrLarge {
		t.Error(e)
	}
	if _, e := proof.Read(s[:len(s)-1] + " "); e != api.ErrText {
		t.Error(e)
	}
}

func TestReadErrors(t *testing.T) {
	for _, s := range []string{
		"", " ", "(", ")", "()", "(axiom)", "(axiom )", "(axiom x", "(axiom x) ", " (axiom x)", "(axiom  x)", "(axiom x )", "(axiom x y)", "(Axiom x)", "(axiom 1)", "axiom x", "(axiom x))", "((axiom x))",
		"(assume $A:prop)", "(assume [$A:prop)", "(assume [])", "(assume [$A])", "(assume [$A:prop ])", "(assume[$A:prop])", "(assume [#0])", "(assume [$A:prop] [$A:prop])", "(assume [?A.01:prop])", "(assume [?A.1000001:prop])",
		"(sym)", "(sym (axiom x)(axiom x))", "(sym (axiom x) (axiom x))", "(trans (axiom x))", "(trans (axiom x) (axiom x) (axiom x))", "(trans  (axiom x) (axiom x))",
		"(gen < | > (axiom x))", "(gen 0 <|> (axiom x))", "(gen 00 < | > (axiom x))", "(gen 01 < | > (axiom x))", "(gen -1 < | > (axiom x))", "(gen +1 < | > (axiom x))", "(gen 1_0 < | > (axiom x))", "(gen 9223372036854775808 < | > (axiom x))", "(gen 0 < a | > (axiom x))", "(gen 0 <a  b | > (axiom x))", "(gen 0 <a |> (axiom x))", "(gen 0 <a | b> )", "(gen 0 <1 | > (axiom x))", "(gen 0 <a | b", "(gen 0 <a", "(gen 0 <a | b  c> (axiom x))", "(gen", "(gen 0",
		"(inst <a=[nat] | > (axiom x))", "(inst <a.=[nat] | > (axiom x))", "(inst <.0=[nat] | > (axiom x))", "(inst <a.00=[nat] | > (axiom x))", "(inst <a.-1=[nat] | > (axiom x))", "(inst <a.0=nat | > (axiom x))", "(inst <a.0=[nat]  | > (axiom x))", "(inst <a.0=[nat]b.0=[nat] | > (axiom x))", "(inst < | x.0=[nat]> (axiom x))", "(inst <x.0=[$A:prop] | > (axiom x))", "(inst < | > )", "(inst <a.0=[fun(nat,nat)] | > (axiom x))", "(inst <a.0=[nat", "(inst < | x.0=[$A:prop]",
		"(impI (axiom x) [$A:prop])", "(oracle [$A:prop] x)", "(oracle x)", "(foo x)", "(axiom x\n)", "(axiom \xff)", "\xff\xfe", "(axiom ä)", strings.Repeat("(sym ", 70000), strings.Repeat("(", 400000),
	} {
		if p, e := proof.Read(s); e != api.ErrText || p.Op != 0 || p.Kids != nil {
			t.Errorf("%.60q: %d", s, e)
		}
	}
	nested := func(n int) string { return strings.Repeat("(sym ", n-1) + "(axiom x)" + strings.Repeat(")", n-1) }
	if p, e := proof.Read(nested(proof.MaxNest)); e != api.OK || must(proof.Text(p)) != nested(proof.MaxNest) {
		t.Error(e)
	}
	if _, e := proof.Read(nested(proof.MaxNest + 1)); e != api.ErrText {
		t.Error(e)
	}
	if _, e := proof.Read(strings.Repeat("x", 10*api.MaxText+1)); e != api.ErrLarge {
		t.Error(e)
	}
	if _, e := proof.Read("(assume [" + strings.Repeat("x", api.MaxText+1) + "])"); e != api.ErrText {
		t.Error(e)
	}
	if !sort.IsName("x'") {
		t.Error("names")
	}
}
