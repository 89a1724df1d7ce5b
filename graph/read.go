package graph

import (
	"azimuth/api"
	"slices"
	"sort"
)

// reader reads types of a tree as heads.
type reader struct {
	of      api.Tree
	behind  map[string]int // for each alias's name a type for which it stands
	numbers map[int]int    // the head of each type that was met
	heads   []api.Head
}

// read: the graph of a type, ahead of being made normal.
func read(t api.Tree, i int) (api.Graph, api.Errno) {
	r := &reader{of: t, behind: map[string]int{}, numbers: map[int]int{}}
	// Of two aliases with a name the first one counts.
	for _, a := range slices.Backward(t.Aliases) {
		r.behind[a.Name] = a.Type
	}
	root, e := r.head(i)
	if e != api.OK {
		return api.Graph{}, e
	}
	// Asked behind all else, as what is wrong with an alias is told ahead of it.
	if len(r.heads) > api.MaxStates {
		return api.Graph{}, api.ErrMany
	}
	return api.Graph{L: r.heads, Root: root}, api.OK
}

// head: the number of a type's head, which is made when the type is met first.
func (r *reader) head(i int) (int, api.Errno) {
	i, e := r.through(i)
	if e != api.OK {
		return 0, e
	}
	number, met := r.numbers[i]
	if met {
		return number, api.OK
	}
	number = len(r.heads)
	r.numbers[i] = number
	n := r.of.Types[i]
	h := api.Head{Kind: n.Kind, Names: slices.Clone(n.Names), Kids: make([]int, len(n.Kids)), Open: n.Open}
	r.heads = append(r.heads, h)
	for at, kid := range n.Kids {
		h.Kids[at], e = r.head(kid)
		if e != api.OK {
			return 0, e
		}
	}
	sort.Sort(rising{h})
	return number, api.OK
}

// through looks through aliases, from a type on.
func (r *reader) through(i int) (int, api.Errno) {
	var met []string
	for r.of.Types[i].Kind == api.TAlias {
		name := r.of.Types[i].Name
		behind, there := r.behind[name]
		switch {
		case !there:
			return 0, api.ErrName
		case len(met) == len(r.of.Aliases):
			return 0, api.ErrLoop
		}
		met = append(met, name)
		i = behind
	}
	// Who meets one of them again doesn't go the whole way: rows of aliases may be as long as there are types.
	for _, name := range met {
		r.behind[name] = i
	}
	return i, api.OK
}

// rising puts a head's kids in the order of their names.
type rising struct{ api.Head }

func (r rising) Len() int { return len(r.Names) }

func (r rising) Less(i, j int) bool { return r.Names[i] < r.Names[j] }

func (r rising) Swap(i, j int) {
	r.Names[i], r.Names[j] = r.Names[j], r.Names[i]
	r.Kids[i], r.Kids[j] = r.Kids[j], r.Kids[i]
}
