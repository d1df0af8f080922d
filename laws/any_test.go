package laws

import (
	"math"
	"math/rand"
	"testing"

	"triforium/api"
	"triforium/checker"
	"triforium/kernel"
	"triforium/model"
	"triforium/proof"
	"triforium/term"
	"triforium/types"
)

// chaos makes values of all kinds, most of which are not well-formed.
type chaos struct{ *rand.Rand }

func (c chaos) number() int {
	return []int{0, 0, 0, 1, 1, 2, 3, 4, 5, 6, 7, -1, 17, 18, 19, 1000000, math.MaxInt, math.MinInt}[c.Intn(18)]
}

func (c chaos) name() string {
	return []string{"a", "x", "t", "fun", "prop", "bool", "nat", "list", "imp", "all", "eq", "Equal", "zero", "ax", "trust", "", "1", "\xff", "c"}[c.Intn(19)]
}

func (c chaos) names() []string {
	var l []string
	for c.Intn(3) == 0 {
		l = append(l, c.name())
	}
	return l
}

func (c chaos) typ(depth int) api.Type {
	t := api.Type{Op: 1 + c.Intn(3), Name: c.name()}
	if c.Intn(4) == 0 {
		t.Op, t.Index, t.Sort = c.number(), c.number(), c.names()
	}
	if t.Op == api.TCon && t.Name == "fun" && depth > 0 {
		t.Args = []api.Type{c.typ(depth - 1), c.typ(depth - 1)}
	}
	for depth > 0 && c.Intn(6) == 0 {
		t.Args = append(t.Args, c.typ(depth-1))
	}
	return t
}

func (c chaos) term(depth int) api.Term {
	t := api.Term{Op: 1 + c.Intn(6)}
	if c.Intn(6) == 0 || t.Op < 4 || t.Op == 5 {
		t.Name, t.Type = c.name(), c.typ(2)
	}
	if c.Intn(6) == 0 || t.Op == 4 {
		t.Num = c.number()
	}
	kids := []int{0, 0, 0, 0, 0, 1, 2}[t.Op]
	if c.Intn(8) == 0 {
		kids, t.Op = c.Intn(4), c.number()
	}
	for range kids {
		if depth > 0 {
			t.Kids = append(t.Kids, c.term(depth-1))
		}
	}
	return t
}

func (c chaos) inst() api.Inst {
	var i api.Inst
	for c.Intn(2) == 0 {
		i.Types = append(i.Types, api.TypeBind{Name: c.name(), Index: c.number(), To: c.typ(2)})
	}
	for c.Intn(2) == 0 {
		i.Terms = append(i.Terms, api.TermBind{Name: c.name(), Index: c.number(), To: c.term(2)})
	}
	return i
}

func (c chaos) proof(depth int) api.Proof {
	p := api.Proof{Op: 1 + c.Intn(18), Term: c.term(2)}
	if c.Intn(3) == 0 {
		p = api.Proof{Op: c.number(), Name: c.name(), Inst: c.inst(), TypeNames: c.names(), TermNames: c.names(), Num: c.number()}
	}
	for depth > 0 && c.Intn(2) == 0 {
		p.Kids = append(p.Kids, c.proof(depth-1))
	}
	return p
}

func (c chaos) theory() api.Theory {
	thy := theories()[c.Intn(5)]
	switch c.Intn(8) {
	case 0:
		thy = api.Theory{Name: c.name(), Oracles: c.names()}
	case 1:
		thy.Consts = append(thy.Consts, api.ConstDecl{Name: c.name(), Type: c.typ(3)})
	case 2:
		thy.Axioms = append(thy.Axioms, api.Axiom{Name: c.name(), Kind: c.number(), Prop: c.term(3)})
	case 3:
		thy = hol()
	}
	return thy
}

func (c chaos) model() model.Model {
	var m model.Model
	for c.Intn(2) == 0 {
		x := model.Carrier{Name: c.name(), Params: c.names()}
		for c.Intn(3) > 0 {
			var fields []api.Type
			for c.Intn(3) == 0 {
				fields = append(fields, c.typ(2))
			}
			x.Cases = append(x.Cases, fields)
		}
		m.Carriers = append(m.Carriers, x)
	}
	for c.Intn(2) == 0 {
		m.Meanings = append(m.Meanings, model.Meaning{Name: c.name(), How: c.number(), Type: c.name(), Case: c.number(), Field: c.number(), Value: c.number()})
	}
	for c.Intn(2) == 0 {
		m.Ground = append(m.Ground, c.typ(1))
	}
	return m
}

// Functions of this stage end without a panic for values that are not well-formed, with a zero value beside an error.
func TestAnyValue(t *testing.T) {
	c := chaos{rand.New(rand.NewSource(5))}
	for range 3000 {
		p, q := c.proof(3), c.proof(2)
		wantZero(t, proof.Check(p), "")
		proof.Size(p)
		proof.Names(p)
		proof.Counts(p)
		if !proof.Equal(p, p) || proof.Equal(p, q) && !proof.Equal(q, p) {
			t.Fatal("Equal")
		}
		lines, e := proof.Lines(p)
		wantZero(t, e, lines)
		var l []proof.Line
		for c.Intn(3) > 0 {
			x := proof.Line{Node: c.proof(1)}
			for c.Intn(2) == 0 {
				x.Kids = append(x.Kids, c.number())
			}
			l = append(l, x)
		}
		joined, e := proof.Join(l)
		wantZero(t, e, joined)
		short, e := proof.Shorter(p)
		wantZero(t, e, short)
		s, e := proof.Text(p)
		wantZero(t, e, s)
		if e == api.OK && !proof.Equal(must(proof.Read(s)), p) {
			t.Fatal("Read of Text", s)
		}
		checker.Axioms(p)
		if a := (checker.Sequent{Hyps: []api.Term{c.term(2)}, Prop: c.term(2), Oracles: c.names()}); !checker.Same(a, a) {
			t.Fatal("Same")
		}
	}
}

// wantZero wants a value to be zero beside an error.
func wantZero(t *testing.T, e api.Errno, x any) {
	t.Helper()
	if e == api.OK {
		return
	}
	zero := true
	switch y := x.(type) {
	case string:
		zero = y == ""
	case int:
		zero = y == 0
	case bool:
		zero = !y
	case []proof.Line:
		zero = len(y) == 0
	case []model.Model:
		zero = len(y) == 0
	case []int:
		zero = len(y) == 0
	case api.Proof:
		zero = proof.Equal(y, api.Proof{})
	case checker.Sequent:
		zero = checker.Same(y, checker.Sequent{})
	case kernel.Theorem:
		zero = !y.Is()
	case model.Assign:
		zero = len(y.Types)+len(y.Values) == 0
	}
	if !zero || e < 0 {
		t.Fatal("with an error", e, x)
	}
}

func TestAnyTheorem(t *testing.T) {
	c := chaos{rand.New(rand.NewSource(6))}
	all := random(1001, 45).results
	for range 1500 {
		a, b, x, thy := all[c.Intn(len(all))], all[c.Intn(len(all))], c.term(3), c.theory()
		if c.Intn(9) == 0 {
			a = kernel.Theorem{}
		}
		s, e := checker.Check(thy, c.proof(3))
		wantZero(t, e, s)
		for _, f := range []func() (kernel.Theorem, api.Errno){
			func() (kernel.Theorem, api.Errno) { return kernel.Axiom(thy, c.name()) }, func() (kernel.Theorem, api.Errno) { return kernel.Oracle(thy, c.name(), x) }, func() (kernel.Theorem, api.Errno) { return kernel.Assume(thy, x) },
			func() (kernel.Theorem, api.Errno) { return kernel.ImpIntro(x, a) }, func() (kernel.Theorem, api.Errno) { return kernel.ImpElim(a, b) }, func() (kernel.Theorem, api.Errno) { return kernel.AllIntro(x, a) }, func() (kernel.Theorem, api.Errno) { return kernel.AllElim(x, a) },
			func() (kernel.Theorem, api.Errno) { return kernel.Reflexive(thy, x) }, func() (kernel.Theorem, api.Errno) { return kernel.Symmetric(a) }, func() (kernel.Theorem, api.Errno) { return kernel.Transitive(a, b) }, func() (kernel.Theorem, api.Errno) { return kernel.Combination(a, b) },
			func() (kernel.Theorem, api.Errno) { return kernel.Abstraction(x, a) }, func() (kernel.Theorem, api.Errno) { return kernel.Beta(thy, x) }, func() (kernel.Theorem, api.Errno) { return kernel.Eta(thy, x) }, func() (kernel.Theorem, api.Errno) { return kernel.EqIntro(a, b) },
			func() (kernel.Theorem, api.Errno) { return kernel.EqElim(a, b) }, func() (kernel.Theorem, api.Errno) { return kernel.Instantiate(c.inst(), a) }, func() (kernel.Theorem, api.Errno) { return kernel.Generalize(c.names(), c.names(), c.number(), a) }, func() (kernel.Theorem, api.Errno) { return kernel.Transfer(thy, a) },
		} {
			r, e := f()
			wantZero(t, e, r)
			if r.Is() == (e != api.OK) {
				t.Fatal("neither a theorem nor an error", e)
			}
		}
	}
}

func TestAnyModel(t *testing.T) {
	c := chaos{rand.New(rand.NewSource(7))}
	right := 0
	for range 1500 {
		thy, m := c.theory(), c.model()
		if model.Check(thy, m) == api.OK {
			right++
		}
		n, e := model.Size(thy, m, c.typ(2))
		wantZero(t, e, n)
		k, fields, e := model.Element(thy, m, c.typ(2), c.number())
		wantZero(t, e, k)
		wantZero(t, e, fields)
		n, e = model.Make(thy, m, c.typ(2), c.number(), []int{c.number()}[:c.Intn(2)])
		wantZero(t, e, n)
		n, e = model.Call(thy, m, c.typ(1), c.typ(1), c.number(), c.number())
		wantZero(t, e, n)
		x := c.term(3)
		a := model.Assign{Types: c.inst().Types}
		for _, v := range append(term.Frees(x), term.Vars(x)...) {
			a.Values = append(a.Values, model.Value{Name: v.Name, Index: -1 + c.Intn(2), Value: c.Intn(2)})
		}
		n, e = model.Evaluate(thy, m, x, a)
		wantZero(t, e, n)
		ok, b, e := model.Holds(thy, m, []api.Term{c.term(2)}[:c.Intn(2)], c.term(3))
		wantZero(t, e, ok)
		wantZero(t, e, b)
		ok, name, e := model.True(thy, m)
		wantZero(t, e, ok)
		wantZero(t, e, name)
		l, e := model.Models(thy, c.Intn(5)-1, c.number())
		wantZero(t, e, l)
	}
	if right < 80 {
		t.Error("too few right models", right)
	}
	if _, e := types.Text(c.typ(0)); e > 100 {
		t.Error(e)
	}
}
