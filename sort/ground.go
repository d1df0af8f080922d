package sort

import (
	"slices"
	"strings"

	"triforium/api"
)

// maxGround is the greatest depth that Ground takes.
const maxGround = 5

// wanted is a question of Ground: a sort, written with commas, and a depth.
type wanted struct {
	sort  string
	depth int
}

// grounds keeps what was found, since the same sorts are asked for again and again.
type grounds struct {
	algebra Algebra
	found   map[wanted]api.Type
	none    map[wanted]bool
}

// first returns the first type of at most a depth that has a normal sort.
func (g grounds) first(s []string, depth int) (api.Type, bool) {
	w := wanted{strings.Join(s, ","), depth}
	if t, ok := g.found[w]; ok {
		return t, true
	}
	if depth == 0 || g.none[w] {
		return api.Type{}, false
	}
	for _, d := range g.algebra.types {
		if t, ok := g.applied(d.Name, s, depth); ok {
			g.found[w] = t
			return t, true
		}
	}
	g.none[w] = true
	return api.Type{}, false
}

// applied returns a type constructor with the first arguments with which it has a sort.
func (g grounds) applied(name string, s []string, depth int) (api.Type, bool) {
	sorts, ok := g.algebra.Sorts(name, s)
	if !ok {
		return api.Type{}, false
	}
	t := api.Type{Op: api.TCon, Name: name}
	for _, x := range sorts {
		a, ok := g.first(x, depth-1)
		if !ok {
			return api.Type{}, false
		}
		t.Args = append(t.Args, a)
	}
	return t, true
}

// copied returns a type in new memory: what grounds keeps stands in several places of one type.
func copied(t api.Type) api.Type {
	t.Sort = slices.Clone(t.Sort)
	args := make([]api.Type, 0, len(t.Args))
	for _, a := range t.Args {
		args = append(args, copied(a))
	}
	t.Args = args
	return t
}
