package solve

import (
	"azimuth/api"
	"azimuth/pairs"
)

// lookAtHeads: what follows from a claim of two heads. False: it is a clash.
func (s *Solver) lookAtHeads(i, j int) bool {
	it, that := s.draft.head(i), s.draft.head(j)
	if it.Kind == api.TNone || that.Kind == api.TAny {
		return true
	}
	if it.Kind == that.Kind && s.lookAtKids(i, &it, &that) {
		return true
	}
	s.clash = [2]int{s.told(i), s.told(j)}
	return false
}

// lookAtKids: so of two heads of one kind, of which neither is none on the left, or any on the right.
func (s *Solver) lookAtKids(i int, it, that *api.Head) bool {
	switch it.Kind {
	case api.TFun:
		s.follow(that.Kids[0], it.Kids[0])
		s.follow(it.Kids[1], that.Kids[1])
		return true
	case api.TVariant:
		return s.lookAtVariants(i, it, that)
	}
	return s.lookAtShared(it, that) == len(that.Names)
}

func (s *Solver) lookAtVariants(i int, it, that *api.Head) bool {
	if it.Open && !that.Open {
		return false
	}
	if it.Open {
		for kid := range pairs.Others(it, that) {
			s.follow(s.any(i), kid)
		}
	}
	return s.lookAtShared(it, that) == len(it.Names) || that.Open
}

// lookAtShared: how many names two heads share, the kids of each below one another.
func (s *Solver) lookAtShared(it, that *api.Head) int {
	both, _ := pairs.Shared(it, that, func(kid, other int) bool {
		s.follow(kid, other)
		return true
	})
	return both
}

// any: the number of one, for an open variant that lacks a name. One that is there will do, as a new one wants room.
func (s *Solver) any(variant int) int {
	if s.top == none {
		s.top = s.anyThere()
	}
	if s.top == none {
		s.top = s.draft.add(part{head: api.Head{Kind: api.TAny}})
		s.from[s.top] = way{of: variant}
	}
	return s.top
}

func (s *Solver) anyThere() int {
	for i, h := range s.draft.Parts() {
		if h.Kind == api.TAny {
			return i
		}
	}
	return none
}

// told: the head that is told of a clash: of one that was raised that of which it was.
func (s *Solver) told(i int) int {
	if i == s.top {
		return s.anyTold()
	}
	if w, raised := s.from[i]; raised {
		return s.told(w.of)
	}
	return i
}

// anyTold: to be told an any must be in the arena; where there is no room for it, the variant is told that has it.
func (s *Solver) anyTold() int {
	if s.top < s.draft.first {
		return s.top
	}
	if i, e := s.draft.Arena.Head(s.draft.head(s.top)); e == api.OK {
		return i
	}
	return s.from[s.top].of
}
