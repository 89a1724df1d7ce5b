package scope

import (
	"azimuth/api"
	"slices"
)

// named: which alias each name means; the first one, if there are several.
func named(t api.Tree) map[string]int {
	meant := map[string]int{}
	for i, a := range slices.Backward(t.Aliases) {
		meant[a.Name] = i
	}
	return meant
}

// through looks through aliases, from a type on.
func through(t api.Tree, i int) (int, api.Errno) {
	meant := named(t)
	// Who meets more aliases than there are goes round.
	for range len(t.Aliases) + 1 {
		n := t.Types[i]
		if n.Kind != api.TAlias {
			return i, api.OK
		}
		a, there := meant[n.Name]
		if !there {
			return 0, api.ErrName
		}
		i = t.Aliases[a].Type
	}
	return 0, api.ErrLoop
}

// wrongAliases: what is wrong with aliases, and with types that are aliases' names.
func wrongAliases(t api.Tree) []api.Diag {
	var l []api.Diag
	meant := named(t)
	for i, a := range t.Aliases {
		if meant[a.Name] != i {
			l = append(l, api.Diag{Error: api.ErrTwice, Pos: a.Pos, Name: a.Name})
		}
	}
	for _, n := range t.Types {
		if _, there := meant[n.Name]; n.Kind == api.TAlias && !there {
			l = append(l, api.Diag{Error: api.ErrName, Pos: n.Pos, Name: n.Name})
		}
	}
	for _, i := range looping(onward(t, meant)) {
		l = append(l, api.Diag{Error: api.ErrLoop, Pos: t.Aliases[i].Pos, Name: t.Aliases[i].Name})
	}
	return l
}

// onward: for each alias the one whose name stands there by itself; -1: there is none.
func onward(t api.Tree, meant map[string]int) []int {
	next := make([]int, len(t.Aliases))
	for i, a := range t.Aliases {
		next[i] = -1
		// Types that are no TAlias have no Name, which no alias has.
		if k, there := meant[t.Types[a.Type].Name]; there {
			next[i] = k
		}
	}
	return next
}

// looping: the aliases that come back to themselves. Each is walked over once, as there may be as many as types.
func looping(next []int) []int {
	const told = -1
	var l []int
	walks := make([]int, len(next)) // by which walk each alias was met first, counted from 1 on
	for i := range next {
		walk, at := i+1, i
		for at >= 0 && walks[at] == 0 {
			walks[at] = walk
			at = next[at]
		}
		// An alias that this very walk has met stands in a round; one of an earlier walk was told then.
		for at >= 0 && walks[at] == walk {
			walks[at] = told
			l = append(l, at)
			at = next[at]
		}
	}
	return l
}
