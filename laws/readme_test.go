package laws

import (
	"testing"

	"triforium/api"
	"triforium/checker"
	"triforium/kernel"
	"triforium/model"
	"triforium/proof"
	"triforium/term"
	"triforium/theory"
)

// TestReadme is the example of README.md.
func TestReadme(t *testing.T) {
	a, _ := term.Read(`$A:prop`)
	h, e := kernel.Assume(theory.Pure(), a)
	th, f := kernel.ImpIntro(a, h)
	s, g := proof.Text(th.Proof())
	q, i := checker.Check(theory.Pure(), th.Proof())
	ok, x, j := model.Holds(theory.Pure(), model.Model{}, nil, a)
	if s != "(impI [$A:prop] (assume [$A:prop]))" || !checker.Same(q, stated(th)) || ok || len(x.Values) != 1 || x.Values[0] != (model.Value{Name: "A", Index: -1}) {
		t.Error(s, q, ok, x)
	}
	for _, e := range []api.Errno{e, f, g, i, j} {
		if e != api.OK {
			t.Error(e)
		}
	}
}
