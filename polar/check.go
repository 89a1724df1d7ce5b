package polar

import (
	"slices"

	"azimuth/api"
	"azimuth/graph"
)

func mayBe(x Auto) bool {
	// That there is a state is asked with the root, which is one.
	if len(x.L) > api.MaxStates || !isOf(x, x.Root, true) {
		return false
	}
	for _, s := range x.L {
		if !mayBeState(x, s) {
			return false
		}
	}
	return true
}

// isOf: is there such a state, and is it of that sign?
func isOf(x Auto, i int, plus bool) bool { return i >= 0 && i < len(x.L) && x.L[i].Plus == plus }

func mayBeState(x Auto, s State) bool {
	var kinds []int
	for _, h := range s.Heads {
		if !hasAsked(h) || !kidsMayBe(x, s.Plus, h) {
			return false
		}
		kinds = append(kinds, h.Kind)
	}
	all, nothing := ends(s.Plus)
	if slices.Contains(kinds, nothing) || slices.Contains(kinds, all) && len(s.Heads)+len(s.Vars) > 1 {
		return false
	}
	return rise(kinds) && rise(s.Vars) && (len(s.Vars) == 0 || s.Vars[0] >= 0)
}

func kidsMayBe(x Auto, plus bool, h api.Head) bool {
	for k, kid := range h.Kids {
		taken := h.Kind == api.TFun && k == 0
		if !isOf(x, kid, plus != taken) {
			return false
		}
	}
	return true
}

// hasAsked: has a head what its kind asks, whatever its kids?
func hasAsked(h api.Head) bool {
	// What a kind asks, package graph knows: of a graph of this head alone, with itself for its kids.
	h.Kids = make([]int, len(h.Kids))
	return graph.Check(api.Graph{L: []api.Head{h}}) == api.OK
}

func rise(l []int) bool {
	for i := range len(l) - 1 {
		if l[i] >= l[i+1] {
			return false
		}
	}
	return true
}

// ends: the kind that with a sign stands for all, whatever is beside it, and the one that counts for nothing.
func ends(plus bool) (all, nothing int) {
	if plus {
		return api.TAny, api.TNone
	}
	return api.TNone, api.TAny
}
