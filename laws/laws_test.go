package laws

import (
	"math/rand"
	"slices"
	"testing"

	"triforium/api"
	"triforium/checker"
	"triforium/kernel"
	"triforium/proof"
	"triforium/term"
	"triforium/theory"
	"triforium/types"
)

// stated returns what a theorem states, as a sequent.
func stated(t kernel.Theorem) checker.Sequent {
	return checker.Sequent{Hyps: t.Hyps(), Prop: t.Prop(), Oracles: t.Oracles()}
}

// scripts calls a function with random scripts.
func scripts(n int, steps int, f func(seed int64, m *maker)) {
	for seed := range int64(n) {
		f(seed, random(seed+1000, steps))
	}
}

// P6.2, P7.2: the checker takes the proof of each theorem, in its theory and in greater ones.
func TestProofsAreChecked(t *testing.T) {
	scripts(120, 45, func(seed int64, m *maker) {
		for i, x := range m.results {
			if !x.Is() {
				continue
			}
			p := x.Proof()
			for k, thy := range append([]api.Theory{x.Theory()}, m.thys...) {
				if k > 0 && !theory.Within(x.Theory(), thy) {
					continue
				}
				s, e := checker.Check(thy, p)
				if e != api.OK || !checker.Same(s, stated(x)) {
					t.Fatal(seed, i, m.script[i], e, s, stated(x))
				}
			}
			if e := proof.Check(p); e != api.OK {
				t.Fatal("the form of the proof", seed, i, e)
			}
		}
	})
}

// P6.3: hypotheses and propositions are right.
func TestTheoremsAreRight(t *testing.T) {
	scripts(100, 45, func(seed int64, m *maker) {
		for i, x := range m.results {
			if !x.Is() {
				continue
			}
			sorts, kinds := map[string]string{}, map[string]string{}
			hyps := x.Hyps()
			if !slices.IsSortedFunc(hyps, term.Compare) || !slices.IsSorted(x.Oracles()) {
				t.Fatal("order", seed, i)
			}
			for k := 1; k < len(hyps); k++ {
				if term.Equal(hyps[k-1], hyps[k]) {
					t.Fatal("twice", seed, i)
				}
			}
			for _, p := range append(hyps, x.Prop()) {
				if u, e := term.Check(x.Theory(), p); e != api.OK || !types.Equal(u, prop()) {
					t.Fatal("no right proposition", seed, i, e)
				}
				for _, v := range term.TypeVariables(p) {
					alone := v
					alone.Sort = nil
					wantOne(t, sorts, must(types.Text(alone)), must(types.Text(v)))
				}
				for _, v := range append(term.Frees(p), term.Vars(p)...) {
					alone := v
					alone.Type = prop()
					wantOne(t, kinds, must(term.Text(alone)), must(term.Text(v)))
				}
			}
		}
	})
}

func wantOne(t *testing.T, seen map[string]string, name, is string) {
	if old, ok := seen[name]; ok && old != is {
		t.Fatal("a variable is not the same everywhere", old, is)
	}
	seen[name] = is
}

// P6.4: a script that is played in greater theories states the same.
func TestGreaterTheories(t *testing.T) {
	scripts(100, 45, func(seed int64, m *maker) {
		// what was within another one stays within it
		greater := []api.Theory{m.thys[1], m.thys[2], m.thys[3], m.thys[3], must(theory.Merge("More", m.thys[2], m.thys[4]))}
		if seed%2 == 0 {
			for i := range greater {
				greater[i] = must(theory.Merge("All", greater[i], m.thys[4]))
			}
		}
		l := kernel.Play(m.thys, m.script)
		for i, x := range kernel.Play(greater, m.script) {
			if l[i].Code == api.OK && (x.Code != api.OK || !checker.Same(stated(x.Theorem), stated(l[i].Theorem)) || !proof.Equal(x.Theorem.Proof(), l[i].Theorem.Proof())) {
				t.Fatal(seed, i, m.script[i].Rule, l[i].Code, x.Code)
			}
		}
	})
}

// spoil changes all memory of a term.
func spoil(x *api.Term) {
	spoilType(&x.Type)
	for i := range x.Kids {
		spoil(&x.Kids[i])
	}
	x.Op, x.Name = 77, "spoilt"
}

func spoilType(x *api.Type) {
	for i := range x.Sort {
		x.Sort[i] = "spoilt"
	}
	for i := range x.Args {
		spoilType(&x.Args[i])
	}
	x.Op, x.Name = 77, "spoilt"
}

func spoilProof(p *api.Proof) {
	spoil(&p.Term)
	for i := range p.Inst.Types {
		spoilType(&p.Inst.Types[i].To)
		p.Inst.Types[i].Name = "spoilt"
	}
	for i := range p.Inst.Terms {
		spoil(&p.Inst.Terms[i].To)
	}
	for i := range p.TypeNames {
		p.TypeNames[i] = "spoilt"
	}
	for i := range p.TermNames {
		p.TermNames[i] = "spoilt"
	}
	for i := range p.Kids {
		spoilProof(&p.Kids[i])
	}
	p.Op = 77
}

func spoilTheory(x *api.Theory) {
	for i := range x.Classes {
		for k := range x.Classes[i].Supers {
			x.Classes[i].Supers[k] = "spoilt"
		}
		x.Classes[i].Name = "spoilt"
	}
	for i := range x.Types {
		x.Types[i].Name = "spoilt"
	}
	for i := range x.Arities {
		for k := range x.Arities[i].Sorts {
			for j := range x.Arities[i].Sorts[k] {
				x.Arities[i].Sorts[k][j] = "spoilt"
			}
		}
		x.Arities[i].Type = "spoilt"
	}
	for i := range x.Consts {
		spoilType(&x.Consts[i].Type)
	}
	for i := range x.Axioms {
		spoil(&x.Axioms[i].Prop)
	}
	for i := range x.Oracles {
		x.Oracles[i] = "spoilt"
	}
}

// ownScript returns a script in new memory.
func ownScript(l []kernel.Step) []kernel.Step {
	l = slices.Clone(l)
	for i := range l {
		l[i].Term = term.Lift(l[i].Term, 0)
		l[i].TypeNames, l[i].TermNames = slices.Clone(l[i].TypeNames), slices.Clone(l[i].TermNames)
		l[i].Inst = api.Inst{Types: slices.Clone(l[i].Inst.Types), Terms: slices.Clone(l[i].Inst.Terms)}
		for k := range l[i].Inst.Types {
			l[i].Inst.Types[k].To = types.Apply(nil, l[i].Inst.Types[k].To)
		}
		for k := range l[i].Inst.Terms {
			l[i].Inst.Terms[k].To = term.Lift(l[i].Inst.Terms[k].To, 0)
		}
	}
	return l
}

// P6.5, P7.5: what was returned, and what was given, can be changed without changing a theorem, or what the checker says.
func TestOwnMemory(t *testing.T) {
	scripts(60, 45, func(seed int64, m *maker) {
		thys := theories()
		script := ownScript(m.script)
		l := kernel.Play(thys, script)
		for i := range thys {
			spoilTheory(&thys[i])
		}
		for i := range script {
			s := &script[i]
			spoil(&s.Term)
			p := api.Proof{Inst: s.Inst, TypeNames: s.TypeNames, TermNames: s.TermNames}
			spoilProof(&p)
		}
		for i, x := range l {
			if !x.Theorem.Is() {
				continue
			}
			was := stated(x.Theorem)
			p, thy := x.Theorem.Proof(), x.Theorem.Theory()
			s, e := checker.Check(thy, p)
			for k := range s.Hyps {
				spoil(&s.Hyps[k])
			}
			spoil(&s.Prop)
			for k := range s.Oracles {
				s.Oracles[k] = "spoilt"
			}
			if s, e = checker.Check(thy, p); e != api.OK || !checker.Same(s, was) {
				t.Fatal("the checker's answer", seed, i, e)
			}
			spoilProof(&p)
			spoilTheory(&thy)
			again := stated(x.Theorem)
			for k := range again.Hyps {
				spoil(&again.Hyps[k])
			}
			spoil(&again.Prop)
			for k := range again.Oracles {
				again.Oracles[k] = "spoilt"
			}
			now := stated(x.Theorem)
			s, e = checker.Check(x.Theorem.Theory(), x.Theorem.Proof())
			if !checker.Same(was, now) || e != api.OK || !checker.Same(s, was) {
				t.Fatal("the theorem", seed, i, e)
			}
		}
	})
}

// P6.6: hypotheses and oracles come from the theorems that a step was made of.
func TestFew(t *testing.T) {
	scripts(100, 45, func(seed int64, m *maker) {
		for i, s := range m.script {
			x := m.results[i]
			if !x.Is() || s.Rule == api.Instantiate {
				continue // the hypotheses of an instance are instances
			}
			var hyps []api.Term
			var oracles []string
			for _, k := range s.From {
				hyps = append(hyps, m.results[k].Hyps()...)
				oracles = append(oracles, m.results[k].Oracles()...)
			}
			if s.Rule == api.Assume {
				hyps = append(hyps, s.Term)
			}
			if s.Rule == api.ByOracle {
				oracles = append(oracles, s.Name)
			}
			for _, h := range x.Hyps() {
				if !slices.ContainsFunc(hyps, func(y api.Term) bool { return term.Equal(h, y) }) {
					t.Fatal("a new hypothesis", seed, i, h)
				}
			}
			missing := 0
			slices.SortFunc(hyps, term.Compare)
			for _, h := range slices.CompactFunc(hyps, term.Equal) {
				if !slices.ContainsFunc(x.Hyps(), func(y api.Term) bool { return term.Equal(h, y) }) {
					missing++
				}
			}
			slices.Sort(oracles)
			if missing > 1 || missing == 1 && s.Rule != api.ImpIntro || !slices.Equal(slices.Compact(oracles), x.Oracles()) {
				t.Fatal("what is gone", seed, i, s.Rule, missing, oracles, x.Oracles())
			}
		}
	})
}

// P7.3: the Kids of a proof that is taken are taken.
func TestParts(t *testing.T) {
	scripts(40, 45, func(seed int64, m *maker) {
		for i, x := range m.results {
			if !x.Is() {
				continue
			}
			thy := x.Theory()
			for _, k := range x.Proof().Kids {
				if _, e := checker.Check(thy, k); e != api.OK {
					t.Fatal(seed, i, e)
				}
			}
		}
	})
}

// P7.4: axioms that are not named are not needed.
func TestAxiomsThatAreNamed(t *testing.T) {
	without := 0
	scripts(40, 45, func(seed int64, m *maker) {
		for i, x := range m.results {
			if !x.Is() {
				continue
			}
			p, thy := x.Proof(), x.Theory()
			names := checker.Axioms(p)
			axioms, oracles := proof.Names(p)
			if !slices.Equal(names, axioms) || !slices.Equal(oracles, x.Oracles()) {
				t.Fatal("names", seed, i, names, axioms, oracles)
			}
			for k, a := range thy.Axioms {
				less := x.Theory()
				less.Axioms = slices.Delete(less.Axioms, k, k+1)
				s, e := checker.Check(less, p)
				switch {
				case slices.Contains(names, a.Name):
					if e == api.OK {
						t.Fatal("an axiom that is not there", seed, i, a.Name)
					}
				case a.Kind == api.Plain && theory.Check(less) == api.OK:
					without++
					if e != api.OK || !checker.Same(s, stated(x)) {
						t.Fatal("an axiom that is not needed", seed, i, a.Name, e)
					}
				}
			}
		}
	})
	if without < 500 {
		t.Error("too few", without)
	}
}

// P5.2, P5.3, P5.4 of proofs of theorems.
func TestProofsAsData(t *testing.T) {
	fewer := 0
	scripts(80, 45, func(seed int64, m *maker) {
		for i, x := range m.results {
			if !x.Is() {
				continue
			}
			p := x.Proof()
			wantBack(t, p)
			q := must(proof.Shorter(p))
			a, _ := proof.Size(p)
			b, _ := proof.Size(q)
			if b > a || !proof.Equal(must(proof.Shorter(q)), q) {
				t.Fatal("Shorter", seed, i, a, b)
			}
			if b < a {
				fewer++
			}
			s, e := checker.Check(x.Theory(), q)
			if e != api.OK || !checker.Same(s, stated(x)) {
				t.Fatal("the shorter proof", seed, i, e)
			}
		}
	})
	if fewer < 50 {
		t.Error("too few shorter proofs", fewer)
	}
}

// wantBack looks whether a proof comes back from its lines and from its text.
func wantBack(t *testing.T, p api.Proof) {
	l := must(proof.Lines(p))
	if !proof.Equal(must(proof.Join(l)), p) {
		t.Fatal("Join of Lines")
	}
	for i := range l {
		x := must(proof.Join(l[:i+1]))
		for k := range i {
			if proof.Equal(x, must(proof.Join(l[:k+1]))) {
				t.Fatal("equal lines", i, k)
			}
		}
	}
	s, e := proof.Text(p)
	if e != api.OK {
		t.Fatal("Text", e)
	}
	q, e := proof.Read(s)
	if e != api.OK || !proof.Equal(p, q) || must(proof.Text(q)) != s {
		t.Fatal("Read of Text", e, s)
	}
}

// replay makes a theorem by the rules of the kernel as a proof says.
func replay(thy api.Theory, p api.Proof) (kernel.Theorem, api.Errno) {
	var script []kernel.Step
	var add func(p api.Proof) int
	add = func(p api.Proof) int {
		s := kernel.Step{Rule: p.Op, Name: p.Name, Term: p.Term, Inst: p.Inst, TypeNames: p.TypeNames, TermNames: p.TermNames, Num: p.Num}
		for _, k := range p.Kids {
			s.From = append(s.From, add(k))
		}
		script = append(script, s)
		return len(script) - 1
	}
	add(p)
	if p.Op == kernel.TransferRule || len(script) > 300 {
		return kernel.Theorem{}, api.ErrArgument
	}
	l := kernel.Play([]api.Theory{thy}, script)
	for i, s := range script {
		if s.Rule == kernel.TransferRule {
			return kernel.Theorem{}, api.ErrArgument
		}
		_ = i
	}
	last := l[len(l)-1]
	return last.Theorem, last.Code
}

// nodes returns all nodes of a proof.
func nodes(p *api.Proof) []*api.Proof {
	l := []*api.Proof{p}
	for i := range p.Kids {
		l = append(l, nodes(&p.Kids[i])...)
	}
	return l
}

// mutate changes something in a proof.
func (m *maker) mutate(p *api.Proof, others []kernel.Theorem) {
	l := nodes(p)
	n := l[m.pick(len(l))]
	switch m.pick(9) {
	case 0:
		n.Op = m.pick(20)
	case 1:
		n.Term = m.term(m.typ(2), nil, 2)
	case 2:
		*n = others[m.pick(len(others))].Proof()
	case 3:
		if len(n.Kids) > 0 {
			n.Kids = n.Kids[1:]
		} else {
			n.Kids = []api.Proof{{Op: api.Assume, Term: m.term(prop(), nil, 2)}}
		}
	case 4:
		slices.Reverse(n.Kids)
	case 5:
		n.Name = []string{"protect_def", "no_no", "luck", "trust"}[m.pick(4)]
	case 6:
		n.Num += m.pick(3) - 1
		n.TypeNames = append(n.TypeNames, "a")
	case 7:
		k := nodes(p)
		n.Term = k[m.pick(len(k))].Term
	case 8:
		if x := subterm(m, &n.Term); x != nil {
			x.Op, x.Num = 1+m.pick(6), m.pick(3)-1
		}
	}
}

// subterm returns a part of a term.
func subterm(m *maker, t *api.Term) *api.Term {
	for len(t.Kids) > 0 && m.pick(3) > 0 {
		t = &t.Kids[m.pick(len(t.Kids))]
	}
	return t
}

// What a spoilt proof proves is the same for the kernel and for the checker.
func TestSpoiltProofs(t *testing.T) {
	good, bad := 0, 0
	scripts(120, 45, func(seed int64, m *maker) {
		all := slices.DeleteFunc(slices.Clone(m.results), func(x kernel.Theorem) bool { return !x.Is() })
		if len(all) == 0 {
			return
		}
		for range 40 {
			x := all[m.pick(len(all))]
			p := x.Proof()
			for range 1 + m.pick(2) {
				m.mutate(&p, all)
			}
			if len(nodes(&p)) > 200 || slices.ContainsFunc(nodes(&p), func(n *api.Proof) bool { return n.Op > 18 }) {
				continue
			}
			thy := m.thys[1+m.pick(3)]
			y, e := replay(thy, p)
			s, f := checker.Check(thy, p)
			if (e == api.OK) != (f == api.OK) || f != api.OK && f != checker.ErrProof || e == api.OK && !checker.Same(s, stated(y)) {
				t.Fatal(seed, e, f, p, s, stated(y))
			}
			if e == api.OK {
				good++
			} else {
				bad++
			}
		}
	})
	if good < 500 || bad < 500 {
		t.Error("too few", good, bad)
	}
}

// The terms of spoilt proofs have no error in the form of proofs, or the checker takes them in no theory.
func TestForms(t *testing.T) {
	r := rand.New(rand.NewSource(7))
	scripts(40, 45, func(seed int64, m *maker) {
		for _, x := range m.results {
			if !x.Is() || r.Intn(2) == 0 {
				continue
			}
			p := x.Proof()
			m.mutate(&p, []kernel.Theorem{x})
			l, e := proof.Lines(p)
			q, f := proof.Shorter(p)
			if e != proof.Check(p) || f != e || (e == api.OK) == (len(l) == 0) {
				t.Fatal(seed, e, f)
			}
			if e != api.OK {
				continue
			}
			s, f := checker.Check(m.thys[3], p)
			again, g := checker.Check(m.thys[3], q)
			if f == api.OK && (g != api.OK || !checker.Same(s, again)) {
				t.Fatal("the shorter proof", seed, f, g)
			}
			if !proof.Equal(must(proof.Join(l)), p) {
				t.Fatal("Join of Lines", seed)
			}
			if text, h := proof.Text(p); h == api.OK && !proof.Equal(must(proof.Read(text)), p) {
				t.Fatal("Read of Text", text)
			}
		}
	})
}
