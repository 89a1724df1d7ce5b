package solve

import (
	"cmp"
	"slices"

	"azimuth/api"
	"azimuth/arena"
)

// way is how a part is raised: to a level, up or down.
type way struct {
	of, level int
	up        bool
}

// Raise: a part like another one, of a level.
func Raise(a *arena.Arena, i, level int, up bool) (int, api.Errno) {
	if !isPart(a, i) || level < 0 {
		return 0, api.ErrArg
	}
	s := New(a)
	s.draft.begin()
	raised := s.raise(way{i, level, up})
	s.claims.All(s.bindRaised)
	if e := s.draft.put(); e != api.OK {
		return 0, e
	}
	return raised, api.OK
}

// bindRaised binds a variable that was raised, of which a claim says that it is above another one: what is below that is below this. Or it is below that one; then the other way round.
func (s *Solver) bindRaised(i, j int) bool {
	w, up := s.from[j]
	if !up {
		w = s.from[i]
	}
	raised := s.at(w)
	for _, k := range s.draft.on(side{w.of, !up}) {
		s.draft.bind(side{raised, !up}, s.raise(way{k, w.level, up}))
	}
	s.draft.bind(side{w.of, up}, raised)
	return true
}

// raise: the number of the part that is like one, and whose level isn't above that; that its variables are above those of the one, or below, follows. It is made but once, as all that comes to the one later comes to it, too.
func (s *Solver) raise(w way) int {
	heads := s.unraised(w)
	// Kids have lesser numbers than their heads, but in graphs, which are above no level.
	slices.SortStableFunc(heads, func(a, b way) int { return cmp.Compare(a.of, b.of) })
	for _, h := range heads {
		s.add(h, part{level: h.level, head: s.raisedHead(h)})
	}
	return s.at(w)
}

// unraised: the heads that must be raised for one part to be, and weren't; such variables are raised at once.
func (s *Solver) unraised(w way) (heads []way) {
	for wait := []way{w}; len(wait) > 0; {
		w, wait = wait[len(wait)-1], wait[:len(wait)-1]
		if s.draft.Level(w.of) <= w.level {
			continue
		}
		w = s.first(w)
		_, met := s.raised[w]
		switch {
		case met:
		case s.draft.IsVar(w.of):
			s.raiseVar(w)
		default:
			s.raised[w] = none
			heads = append(heads, w)
			wait = append(wait, kids(w, s.draft.head(w.of))...)
		}
	}
	return heads
}

func (s *Solver) raiseVar(w way) {
	s.add(w, part{level: w.level, variable: true})
	if w.up {
		s.follow(w.of, s.raised[w])
	} else {
		s.follow(s.raised[w], w.of)
	}
}

func (s *Solver) add(w way, p part) {
	s.raised[w] = s.draft.add(p)
	s.from[s.raised[w]] = w
}

// first: where a part came of another one by being raised the same way, that one is raised in its place: else there would be a part for each row of levels.
func (s *Solver) first(w way) way {
	if from, raised := s.from[w.of]; raised && from.up == w.up {
		w.of = from.of
	}
	return w
}

// at: the number of what was raised; of what needn't be its own.
func (s *Solver) at(w way) int {
	if s.draft.Level(w.of) <= w.level {
		return w.of
	}
	return s.raised[s.first(w)]
}

// kids: how those of a head are raised, what functions take the other way.
func kids(w way, h api.Head) []way {
	l := make([]way, len(h.Kids))
	for k, kid := range h.Kids {
		taken := h.Kind == api.TFun && k == 0
		l[k] = way{kid, w.level, w.up != taken}
	}
	return l
}

func (s *Solver) raisedHead(w way) api.Head {
	h := s.draft.head(w.of)
	l := kids(w, h)
	h.Kids = make([]int, len(l))
	for k := range l {
		h.Kids[k] = s.at(l[k])
	}
	return h
}
