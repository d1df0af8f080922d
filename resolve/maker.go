package resolve

import (
	"slices"
	"strconv"

	"triforium/api"
	"triforium/derive"
	"triforium/kernel"
	"triforium/term"
)

// maker makes theorems of a world. Its methods leave by a panic with the code of the kernel, where it does not let one be.
type maker struct {
	world kernel.World
	taken map[string]bool // the names that no new Free may have
}

// newMaker returns the maker of a world whose new Frees stand in none of some theorems.
func newMaker(w kernel.World, l ...kernel.Theorem) *maker {
	m := maker{w, map[string]bool{}}
	for _, th := range l {
		for _, t := range append(th.Hyps(), th.Prop()) {
			for n := range term.Nodes(&t) {
				if n.Op == api.Free {
					m.taken[n.Name] = true
				}
			}
		}
	}
	return &m
}

// longest is how long a name may be that is made new by a number behind it.
const longest = 30

// free returns a new Free, whose name is like another one.
func (m *maker) free(name string, typ api.Type) api.Term {
	if name == "" {
		name = "x"
	}
	if m.taken[name] {
		name = name[:min(len(name), longest)]
		for base, i := name, 1; m.taken[name]; i++ {
			name = base + "_" + strconv.Itoa(i)
		}
	}
	m.taken[name] = true
	return api.Term{Op: api.Free, Name: name, Type: typ}
}

// intro puts pieces ahead of what a theorem states; the assumptions need no longer hold.
func intro(l []piece, th kernel.Theorem) kernel.Theorem {
	for _, p := range slices.Backward(l) {
		if p.param {
			th = derive.Must(kernel.AllIntro(p.term, th))
		} else {
			th = derive.Must(kernel.ImpIntro(p.term, th))
		}
	}
	return th
}

// elim takes pieces from what a theorem states; the assumptions are assumed.
func (m *maker) elim(l []piece, th kernel.Theorem) kernel.Theorem {
	for _, p := range l {
		if p.param {
			th = derive.Must(kernel.AllElim(p.term, th))
		} else {
			th = derive.Elim(th, derive.Assume(m.world, p.term))
		}
	}
	return th
}
