package graph

import (
	"azimuth/api"
	"azimuth/tree"
)

func mayBe(g api.Graph) bool {
	// That there is a head is asked with the root, which is one.
	if len(g.L) > api.MaxStates || !isHead(g, g.Root) {
		return false
	}
	for _, h := range g.L {
		for _, kid := range h.Kids {
			if !isHead(g, kid) {
				return false
			}
		}
		if !rise(h.Names) || !hasAsked(h) {
			return false
		}
	}
	return true
}

func isHead(g api.Graph, i int) bool { return i >= 0 && i < len(g.L) }

func rise(names []string) bool {
	for i := range len(names) - 1 {
		if names[i] >= names[i+1] {
			return false
		}
	}
	return true
}

// hasAsked: has a head what its kind asks?
func hasAsked(h api.Head) bool {
	// A head may have more kids than a tree has types: it is asked piece by piece.
	const most = api.MaxNodes - 1
	for len(h.Names) > most && len(h.Kids) > most {
		piece := h
		piece.Names, piece.Kids = h.Names[:most], h.Kids[:most]
		if !asType(piece) {
			return false
		}
		h.Names, h.Kids = h.Names[most:], h.Kids[most:]
	}
	return len(h.Kids) <= most && asType(h)
}

// asType: could a head be a type in a tree, with other types as its kids? What a kind asks, chapter 4 knows.
func asType(h api.Head) bool {
	kids := len(h.Kids)
	t := api.Tree{
		Nodes: []api.Node{{Kind: api.Int}, {Kind: api.Ascribe, Kids: []int{0}, Types: []int{kids}}},
		Types: make([]api.TypeNode, kids+1),
	}
	n := api.TypeNode{Kind: h.Kind, Names: h.Names, Kids: make([]int, kids), Open: h.Open}
	for i := range kids {
		t.Types[i].Kind, n.Kids[i] = api.TInt, i
	}
	t.Types[kids] = n
	return tree.Check(t) == api.OK
}
