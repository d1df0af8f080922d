package kernel

import "triforium/api"

// maxSteps is the greatest number of steps of a script.
const maxSteps = 300

// Step is a step of a script: a rule (the kind of a proof, or TransferRule), the index of a theory, what the rule takes beside theorems, and the registers of these.
type Step struct {
	Rule, Theory         int
	Name                 string
	Term                 api.Term
	Inst                 api.Inst
	TypeNames, TermNames []string
	Num                  int
	From                 []int
}

// Result is what a step made: a theorem, or a code.
type Result struct {
	Theorem Theorem
	Code    api.Errno
}

// Play makes the steps of a script; the result of each one is the register with its index.
func Play(l []api.Theory, script []Step) []Result {
	results := make([]Result, 0, len(script))
	worlds := make([]*world, len(l))
	open := func(i int) *world {
		if worlds[i] == nil {
			worlds[i] = openWorld(l[i])
		}
		return worlds[i]
	}
	for _, s := range script {
		if len(script) > maxSteps {
			results = append(results, Result{Code: api.ErrCount})
			continue
		}
		if e := stepError(s, len(l), len(results)); e != api.OK {
			results = append(results, Result{Code: e})
			continue
		}
		var from []Theorem
		for _, i := range s.From {
			from = append(from, results[i].Theorem)
		}
		t, e := perform(s, func() *world { return open(s.Theory) }, from...)
		results = append(results, Result{t, e})
	}
	return results
}

// stepError returns the code of a step that is none, with so many theories and registers.
func stepError(s Step, theories, registers int) api.Errno {
	if s.Rule < api.ByAxiom || s.Rule > LastRule {
		return api.ErrArgument
	}
	r := ruleOf(s.Rule)
	if r.takesTheory && (s.Theory < 0 || s.Theory >= theories) {
		return api.ErrRange
	}
	if len(s.From) != r.theorems {
		return api.ErrCount
	}
	for _, i := range s.From {
		if i < 0 || i >= registers {
			return api.ErrRange
		}
	}
	return api.OK
}
