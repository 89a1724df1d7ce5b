package below

import "azimuth/api"

// walk goes through all pairs that must hold if its first one does. As long as nothing speaks against any of them, all do.
type walk struct {
	heads []api.Head
	pairs pairs
}

func (w *walk) holds(it, that int) bool {
	if !w.ask(it, that) {
		return false
	}
	for {
		p, more := w.pairs.next()
		if !more {
			return true
		}
		if !w.look(&w.heads[p.it], &w.heads[p.that]) {
			return false
		}
	}
}

// ask: does nothing speak against a pair by its kinds alone? What else there is to look for waits.
func (w *walk) ask(it, that int) bool {
	kind, other := w.heads[it].Kind, w.heads[that].Kind
	if kind == api.TNone || other == api.TAny {
		return true
	}
	if kind == other {
		w.pairs.put(pair{it, that})
	}
	return kind == other
}

// look: does nothing speak against a pair of one kind by names, or by the kinds of kids?
func (w *walk) look(it, that *api.Head) bool {
	switch it.Kind {
	case api.TFun:
		return w.ask(that.Kids[0], it.Kids[0]) && w.ask(it.Kids[1], that.Kids[1])
	case api.TRecord:
		return w.record(it, that)
	case api.TVariant:
		return w.variant(it, that)
	}
	return true // a kind without kids is below itself
}

func (w *walk) record(it, that *api.Head) bool {
	both := 0
	for i, j := range shared(it.Names, that.Names) {
		if !w.ask(it.Kids[i], that.Kids[j]) {
			return false
		}
		both++
	}
	return both == len(that.Names)
}

func (w *walk) variant(it, that *api.Head) bool {
	if it.Open && !that.Open {
		return false
	}
	both, from := 0, 0
	for i, j := range shared(it.Names, that.Names) {
		if !w.ask(it.Kids[i], that.Kids[j]) || it.Open && !w.anys(that.Kids[from:j]) {
			return false
		}
		both, from = both+1, j+1
	}
	if both < len(it.Names) && !that.Open {
		return false
	}
	return !it.Open || w.anys(that.Kids[from:])
}

// anys: does each of some heads mean any? Any is below no other.
func (w *walk) anys(l []int) bool {
	for _, i := range l {
		if w.heads[i].Kind != api.TAny {
			return false
		}
	}
	return true
}
