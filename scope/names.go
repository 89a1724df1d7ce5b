package scope

import (
	"azimuth/api"
	"maps"
	"slices"
)

// bound: the name that a term binds in the kid at a place of its Kids; empty, as no name is: it binds none there.
func bound(n api.Node, place int) string {
	switch {
	case n.Kind == api.Fun, n.Kind == api.LetRec, n.Kind == api.Let && place == 1:
		return n.Name
	case n.Kind == api.Case && place > 0 && 2*place <= len(n.Names):
		return n.Names[2*place-1]
	}
	return ""
}

// finder finds free Vars, from the whole on.
type finder struct {
	of     api.Tree
	around map[string]int // how many terms around bind a name
	free   map[string]struct{}
}

func freeNames(t api.Tree) []string {
	f := &finder{of: t, around: map[string]int{}, free: map[string]struct{}{}}
	f.term(len(t.Nodes) - 1)
	return slices.Sorted(maps.Keys(f.free))
}

func (f *finder) term(i int) {
	n := f.of.Nodes[i]
	if n.Kind == api.Var && f.around[n.Name] == 0 {
		f.free[n.Name] = struct{}{}
	}
	for place, kid := range n.Kids {
		name := bound(n, place)
		f.around[name]++
		f.term(kid)
		f.around[name]--
	}
}

// wrongTerms: each LetRec of what is no Fun.
func wrongTerms(t api.Tree) []api.Diag {
	var l []api.Diag
	for _, n := range t.Nodes {
		if n.Kind != api.LetRec {
			continue
		}
		if kid := t.Nodes[n.Kids[0]]; kid.Kind != api.Fun {
			l = append(l, api.Diag{Error: api.ErrArg, Pos: kid.Pos, Name: n.Name})
		}
	}
	return l
}
