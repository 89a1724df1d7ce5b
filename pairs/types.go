// Package pairs: pairs of heads of several types, which must all hold for something to hold of two of the types (chapters 9 and 10), or of parts of an arena, of which all that follows must hold (chapter 13).
package pairs

import (
	"azimuth/api"
	"azimuth/graph"
)

// Types are several types, their heads all in one list, so that a pair of heads is told by two numbers, whichever types they are of.
type Types struct {
	Heads []api.Head
	roots []int // of each type its root; none, if it may not be
}

const none = -1

// Of: so of a row of types.
func Of(l ...api.Graph) Types {
	var t Types
	for _, g := range l {
		t.add(g)
	}
	return t
}

func (t *Types) add(g api.Graph) {
	// Of a normal graph no two heads are alike, so the fewest pairs are met.
	n, e := graph.Normal(g)
	if e != api.OK {
		t.roots = append(t.roots, none)
		return
	}
	first := len(t.Heads)
	t.roots = append(t.roots, first+n.Root)
	for _, h := range n.L {
		for k := range h.Kids {
			h.Kids[k] += first
		}
		t.Heads = append(t.Heads, h)
	}
}

// Root: the root's number of the i-th type; false, if that may not be.
func (t Types) Root(i int) (int, bool) {
	root := t.roots[i]
	if root == none {
		return 0, false
	}
	return root, true
}

// Anys: do all names that the other head has, and the one hasn't, have a kid that means any?
func (t Types) Anys(it, that *api.Head) bool {
	for kid := range Others(it, that) {
		if t.Heads[kid].Kind != api.TAny {
			return false
		}
	}
	return true
}
