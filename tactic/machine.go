package tactic

import (
	"iter"

	"triforium/api"
	"triforium/kernel"
	"triforium/term"
)

// Limits of states that steps make.
const (
	maxStateNodes = 2000
	maxStateDepth = 100
	maxStateHyps  = 100
)

// machine has what the states of an expression are made with.
type machine struct {
	world kernel.World
	rules []kernel.Theorem // in the world
	expr  Expr
	fuel  int
}

// newMachine returns the machine of an expression, or the error of a tactic.
func newMachine(thy api.Theory, rules []kernel.Theorem, e Expr, fuel int) (*machine, api.Errno) {
	w, code := kernel.Open(thy)
	if code != api.OK {
		return nil, code
	}
	if len(rules) > maxRules {
		return nil, api.ErrCount
	}
	m := machine{world: w, fuel: fuel}
	for _, r := range rules {
		th, code := w.Transfer(r)
		if code != api.OK {
			return nil, code
		}
		m.rules = append(m.rules, th)
	}
	if code := Form(e, len(rules)); code != api.OK {
		return nil, code
	}
	if fuel < 0 || fuel > MaxFuel {
		return nil, api.ErrRange
	}
	m.expr = e.copied()
	return &m, api.OK
}

// focus is a state, and some of its subgoals in a row.
type focus struct {
	state kernel.Theorem
	goals int // of the state
	from  int
	count int
}

// begin returns a state in the world with all subgoals in focus, or its error.
func (m *machine) begin(state kernel.Theorem) (focus, api.Errno) {
	th, code := m.world.Transfer(state)
	if code != api.OK {
		return focus{}, code
	}
	l, code := Subgoals(th)
	if code != api.OK {
		return focus{}, code
	}
	return focus{state: th, goals: len(l), count: len(l)}, api.OK
}

// on returns a focus in another state, which has as many subgoals more, or fewer, as the state.
func (f focus) on(state kernel.Theorem, goals int) focus {
	return focus{state, goals, f.from, f.count + goals - f.goals}
}

// exhausted is the panic with which a run ends whose steps are used up.
type exhausted struct{}

// runner has the steps that a run has made.
type runner struct {
	*machine
	steps int
}

// step counts a step.
func (r *runner) step() {
	if r.steps == r.fuel {
		panic(exhausted{})
	}
	r.steps++
}

// run calls a function for each state, in order, as long as it wants more: api.ErrFuel, if the steps are used up.
func (m *machine) run(f focus, want func(kernel.Theorem) bool) (code api.Errno) {
	defer func() {
		if x := recover(); x != nil {
			if _, ok := x.(exhausted); !ok {
				panic(x)
			}
			code = api.ErrFuel
		}
	}()
	r := runner{machine: m}
	for g := range r.apply(&m.expr, f) {
		if !want(g.state) {
			break
		}
	}
	return api.OK
}

// tactic yields the states that come from a state, as long as there are steps.
func (m *machine) tactic(state kernel.Theorem) iter.Seq[kernel.Theorem] {
	return func(yield func(kernel.Theorem) bool) {
		if f, code := m.begin(state); code == api.OK {
			m.run(f, yield)
		}
	}
}

// apply yields the states that come from a state by an expression.
func (r *runner) apply(e *Expr, f focus) iter.Seq[focus] {
	return [...]func(*Expr, focus) iter.Seq[focus]{
		Pass: r.pass, Fail: r.fail,
		Rule: r.resolution, Erule: r.resolution, Drule: r.resolution, Assume: r.assumption,
		Rotate: r.rotation, Protect: r.protection, Unfold: r.unfolding, Cut: r.cutting,
		Then: r.then, Or: r.or, Else: r.orElse, Try: r.try, Repeat: r.repeat, Each: r.each, First: r.first, Solve: r.solve,
	}[e.Kind](e, f)
}

// basic yields the states that a basic tactic makes of a subgoal in focus, which is a step, but for those that are too large.
func (r *runner) basic(e *Expr, f focus, states func(at int) iter.Seq[kernel.Theorem]) iter.Seq[focus] {
	return func(yield func(focus) bool) {
		r.step()
		if e.At >= f.count {
			return
		}
		for th := range states(f.from + e.At) {
			if goals, ok := fits(th); ok && !yield(f.on(th, goals)) {
				return
			}
		}
	}
}

// fits returns the number of subgoals of a state, and whether it is not too large.
func fits(th kernel.Theorem) (int, bool) {
	prop := th.Prop()
	nodes, depth := term.Size(prop)
	l, _ := term.Strip(prop)
	return len(l), len(l) <= MaxGoals && nodes <= maxStateNodes && depth <= maxStateDepth && len(th.Hyps()) <= maxStateHyps
}
