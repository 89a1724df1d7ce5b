package solve

import (
	"slices"

	"azimuth/api"
)

// claim: one more, with all that follows. Only when that is known the arena is changed.
func (s *Solver) claim(i, j int) api.Errno {
	s.draft.begin()
	s.follow(i, j)
	if !s.claims.All(s.look) {
		return api.ErrClash
	}
	s.note(i, j)
	return s.draft.put()
}

// follow: it follows that a part is below another one.
func (s *Solver) follow(i, j int) {
	if i != j {
		s.claims.Put(i, j)
	}
}

// look: what follows from a claim, with what else is known of its variables. False: it is a clash.
//
// That a variable is below another one is asked of one of both alone: the lower one has it for a bound above, and hands on to it what comes below; or the upper one has it for a bound below, and hands on to it what comes above. Nothing is missed by that. In a row of variables from a lower head to an upper one the first variable hands on the lower head, or the last one the upper; or else one between has both the one ahead of it for a bound below and the one behind it for a bound above, and of these two a claim follows. Each way the row gets shorter, till both heads meet.
func (s *Solver) look(i, j int) bool {
	d := &s.draft
	switch {
	case !d.IsVar(i) && !d.IsVar(j):
		return s.lookAtHeads(i, j)
	case d.IsVar(i) && s.mayBind(i, j):
		d.bind(side{i, true}, j)
		for _, low := range s.asked(side{i, false}) {
			s.follow(low, j)
		}
	case d.IsVar(j) && s.mayBind(j, i):
		d.bind(side{j, false}, i)
		for _, high := range s.asked(side{j, true}) {
			s.follow(i, high)
		}
	case d.IsVar(i):
		s.follow(i, s.raise(way{j, d.Level(i), false}))
	default:
		s.follow(s.raise(way{i, d.Level(j), true}), j)
	}
	return true
}

// mayBind: may a part be a bound of a variable? Where there is no room no bound will be put in the arena, and all that is still asked is whether a clash follows: levels count for nothing in that.
func (s *Solver) mayBind(v, by int) bool {
	return s.draft.Level(by) <= s.draft.Level(v) || s.draft.full()
}

// asked: the bounds of a variable on a side, but for those variables below it that hand on to it by themselves.
func (s *Solver) asked(x side) []int {
	l := s.draft.on(x)
	if x.above {
		return l
	}
	return slices.DeleteFunc(l, func(i int) bool {
		return s.draft.IsVar(i) && s.draft.Level(i) == s.draft.Level(x.of) && s.claims.Has(i, x.of)
	})
}

// note: of what was claimed itself both sides are noted, as far as levels let them.
func (s *Solver) note(i, j int) {
	if s.draft.IsVar(i) && s.mayBind(i, j) {
		s.draft.bind(side{i, true}, j)
	}
	if s.draft.IsVar(j) && s.mayBind(j, i) {
		s.draft.bind(side{j, false}, i)
	}
}
