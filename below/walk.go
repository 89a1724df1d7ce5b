package below

import (
	"azimuth/api"
	"azimuth/pairs"
)

// walk goes through all pairs that must hold if its first one does. As long as nothing speaks against any of them, all do.
type walk struct {
	types pairs.Types
	list  *pairs.List
}

// holds: is one of several types below another one of them?
func holds(types pairs.Types, one, other int) bool {
	it, known := types.Root(one)
	that, knownToo := types.Root(other)
	if !known || !knownToo {
		return false
	}
	w := walk{types, pairs.New()}
	return w.ask(it, that) && w.list.All(w.look)
}

// ask: does nothing speak against a pair by its kinds alone? What else there is to look for waits.
func (w walk) ask(it, that int) bool {
	kind, other := w.types.Heads[it].Kind, w.types.Heads[that].Kind
	if kind == api.TNone || other == api.TAny {
		return true
	}
	if kind == other {
		w.list.Put(it, that)
	}
	return kind == other
}

// look: does nothing speak against a pair of one kind by names, or by the kinds of kids?
func (w walk) look(one, other int) bool {
	it, that := &w.types.Heads[one], &w.types.Heads[other]
	switch it.Kind {
	case api.TFun:
		return w.ask(that.Kids[0], it.Kids[0]) && w.ask(it.Kids[1], that.Kids[1])
	case api.TRecord:
		both, all := pairs.Shared(it, that, w.ask)
		return all && both == len(that.Names)
	case api.TVariant:
		return w.variant(it, that)
	}
	return true // a kind without kids is below itself
}

func (w walk) variant(it, that *api.Head) bool {
	if it.Open && !(that.Open && w.types.Anys(it, that)) {
		return false
	}
	both, all := pairs.Shared(it, that, w.ask)
	return all && (that.Open || both == len(it.Names))
}
