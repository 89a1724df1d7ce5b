package alike

import (
	"slices"

	"azimuth/api"
	"azimuth/pairs"
)

// first: a dyn stands first among the heads, so that there is one to be the kid of a dyn.
const first = 0

// walk goes through all casts that must be if its first one may be. As long as nothing speaks against any of them, all may be.
type walk struct {
	types pairs.Types
	list  *pairs.List
}

// may: may a cast from one of several types to another one of them be?
func may(types pairs.Types, from, to int) bool {
	it, known := types.Root(from)
	that, knownToo := types.Root(to)
	if !known || !knownToo {
		return false
	}
	w := walk{types, pairs.New()}
	return w.ask(it, that) && w.list.All(w.look)
}

// ask: does nothing speak against a cast by its kinds alone? What else there is to look for waits.
func (w walk) ask(it, that int) bool {
	from, to := w.types.Heads[it].Kind, w.types.Heads[that].Kind
	if from == api.TNone || to == api.TAny {
		return true
	}
	// A dyn is of whatever kind the other one is.
	if from == api.TDyn {
		from = to
	}
	if to == api.TDyn {
		to = from
	}
	if from != to || from == api.TAny {
		return false
	}
	if from >= api.TFun {
		w.list.Put(it, that)
	}
	return true
}

// look: does nothing speak against a cast between heads with kids, by names, or by the kinds of kids?
func (w walk) look(one, other int) bool {
	it, that := w.types.Heads[one], w.types.Heads[other]
	if it.Open && that.Kind == api.TDyn {
		return false
	}
	if it.Kind == api.TDyn {
		it = dynAs(that)
	}
	if that.Kind == api.TDyn {
		that = dynAs(it)
	}
	switch it.Kind {
	case api.TFun:
		return w.ask(that.Kids[0], it.Kids[0]) && w.ask(it.Kids[1], that.Kids[1])
	case api.TRecord:
		both, all := pairs.Shared(&it, &that, w.ask)
		return all && both == len(that.Names)
	}
	_, all := pairs.Shared(&it, &that, w.ask)
	return all && (!it.Open || w.types.Anys(&it, &that))
}

// dynAs: what a dyn is where it stands against a head with kids: it has all that that one has, and each is a dyn.
func dynAs(h api.Head) api.Head {
	return api.Head{Kind: h.Kind, Names: h.Names, Kids: slices.Repeat([]int{first}, len(h.Kids))}
}
