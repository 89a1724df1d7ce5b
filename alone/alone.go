// Package alone: types that are asked by themselves (chapters 6 and 8).
package alone

import (
	"azimuth/api"
	"azimuth/tree"
)

// Check: may a tree be, of which a type is asked? In one without terms types stand as if they were some term's.
func Check(t api.Tree) api.Errno { return tree.Check(withTerms(t)) }

// withTerms: the tree, with terms that have the types that nothing has, if it is without.
func withTerms(t api.Tree) api.Tree {
	if len(t.Nodes) > 0 {
		return t
	}
	t.Nodes = []api.Node{{Kind: api.Int}}
	loose := looseTypes(t)
	// Two by two, as there may be MaxNodes types, and terms.
	for ; len(loose) > 1; loose = loose[2:] {
		t.Nodes = append(t.Nodes, api.Node{Kind: api.Cast, Kids: []int{len(t.Nodes) - 1}, Types: loose[:2]})
	}
	if len(loose) > 0 {
		t.Nodes = append(t.Nodes, api.Node{Kind: api.Ascribe, Kids: []int{len(t.Nodes) - 1}, Types: loose})
	}
	return t
}

// looseTypes: the types that no type and no alias has.
func looseTypes(t api.Tree) []int {
	had := make([]bool, len(t.Types))
	take := func(i int) {
		if i >= 0 && i < len(had) {
			had[i] = true
		}
	}
	for _, n := range t.Types {
		for _, kid := range n.Kids {
			take(kid)
		}
	}
	for _, a := range t.Aliases {
		take(a.Type)
	}
	var loose []int
	for i := range had {
		if !had[i] {
			loose = append(loose, i)
		}
	}
	return loose
}
