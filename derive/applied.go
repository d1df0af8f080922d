package derive

import (
	"triforium/api"
	"triforium/term"
	"triforium/types"
)

// Applied is term.Apply. It leaves with api.ErrCount, if the term would have more nodes than one may have, and with api.ErrLarge, if a type would be too large.
func Applied(i api.Inst, t api.Term) api.Term {
	nodes := 0
	for x := range term.Nodes(&t) {
		nodes++
		for _, b := range i.Terms {
			if x.Op == api.Var && b.Name == x.Name && b.Index == x.Num {
				n, _ := term.Size(b.To)
				nodes += n - 1
			}
		}
		if nodes > api.MaxTerm {
			panic(api.ErrCount)
		}
		if types.AppliedError(i.Types, &x.Type) != api.OK {
			panic(api.ErrLarge)
		}
	}
	return term.Apply(i, t)
}
