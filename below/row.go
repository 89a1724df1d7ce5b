package below

import (
	"azimuth/api"
	"azimuth/graph"
)

// row is several types, their heads all in one list, so that a pair of heads is told by two numbers, whichever types they are of.
type row struct {
	heads []api.Head
	roots []int // of each type its root; none, if it may not be
}

const none = -1

func rowOf(l ...api.Graph) row {
	var r row
	for _, g := range l {
		r.add(g)
	}
	return r
}

func (r *row) add(g api.Graph) {
	// Of a normal graph no two heads are alike, so the fewest pairs are met.
	n, e := graph.Normal(g)
	if e != api.OK {
		r.roots = append(r.roots, none)
		return
	}
	first := len(r.heads)
	r.roots = append(r.roots, first+n.Root)
	for _, h := range n.L {
		for k := range h.Kids {
			h.Kids[k] += first
		}
		r.heads = append(r.heads, h)
	}
}

// below: is one type of a row below another one of it?
func (r row) below(one, other int) bool {
	it, that := r.roots[one], r.roots[other]
	if it == none || that == none {
		return false
	}
	w := walk{r.heads, pairs{squares: map[pair]marks{}}}
	return w.holds(it, that)
}
