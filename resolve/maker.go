package resolve

import (
	"slices"

	"triforium/derive"
	"triforium/equate"
	"triforium/kernel"
)

// maker makes theorems of a world. Its methods leave by a panic with the code of the kernel, where it does not let one be.
type maker struct{ *equate.Maker }

// newMaker returns the maker of a world whose new Frees stand in none of some theorems.
func newMaker(w kernel.World, l ...kernel.Theorem) *maker {
	m := maker{equate.New(w)}
	for _, th := range l {
		for _, t := range derive.Parts(th) {
			m.Take(t)
		}
	}
	return &m
}

// intro puts pieces ahead of what a theorem states; the assumptions need no longer hold.
func intro(l []piece, th kernel.Theorem) kernel.Theorem {
	for _, p := range slices.Backward(l) {
		if p.param {
			th = derive.Must(kernel.AllIntro(p.term, th))
		} else {
			th = derive.Must(kernel.ImpIntro(p.term, th))
		}
	}
	return th
}

// elim takes pieces from what a theorem states; the assumptions are assumed.
func (m *maker) elim(l []piece, th kernel.Theorem) kernel.Theorem {
	for _, p := range l {
		if p.param {
			th = derive.Must(kernel.AllElim(p.term, th))
		} else {
			th = derive.Elim(th, derive.Assume(m.World, p.term))
		}
	}
	return th
}
