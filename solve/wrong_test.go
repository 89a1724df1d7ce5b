package solve_test

import (
	"testing"

	"azimuth/api"
	"azimuth/arena"
	"azimuth/solve"
)

// outside: numbers that none of so many parts has.
func outside(n int) []int {
	return []int{-1, -2, n, n + 1, -n, -n - 1, most, most - 1, least, least + 1, 1 << 32, n - 1 + 1<<32, -1 << 32, 1 << 31, 1<<31 - 1}
}

// P13.1: a nil solver: ErrArg, 0, false, of any numbers.
func TestNilSolver(t *testing.T) {
	var s *solve.Solver
	for _, i := range append(outside(2), 0, 1) {
		for _, j := range append(outside(2), 0, 1) {
			if e := s.Claim(i, j); e != api.ErrArg {
				t.Error(i, j, e)
			}
		}
	}
	i, j, clash := s.Clash()
	if s.Claims() != 0 || i != 0 || j != 0 || clash {
		t.Error(s.Claims(), i, j, clash)
	}
}

// P13.1, P13.2: a solver, and an arena, that nothing made: they have no parts.
func TestMadeByNothing(t *testing.T) {
	s := &solve.Solver{}
	if e := s.Claim(0, 0); e != api.ErrArg || s.Claims() != 0 {
		t.Error(e, s.Claims())
	}
	if _, _, clash := s.Clash(); clash {
		t.Error("a clash")
	}
	a := &arena.Arena{}
	if i, e := solve.Raise(a, 0, 0, true); i != 0 || e != api.ErrArg {
		t.Error(i, e)
	}
	if s := solve.New(a); s == nil || s.Claim(0, 0) != api.ErrArg {
		t.Error("New")
	}
}

// P13.1: numbers that are no parts, on either side and on both, ahead of claims, behind some, and behind a clash: ErrArg, and nothing is changed.
func TestClaimOfNoParts(t *testing.T) {
	w := newWorld(t, 20)
	refused := func(claims int, clash bool) {
		t.Helper()
		was := toldOf(w.Arena)
		n := w.Len()
		for _, i := range outside(n) {
			for _, x := range []claim{{i, 0}, {0, i}, {i, i}, {n - 1, i}, {i, n - 1}} {
				if e := w.solver.Claim(x.below, x.above); e != api.ErrArg {
					t.Errorf("%v: %d", x, e)
				}
			}
		}
		_, _, is := w.solver.Clash()
		if w.solver.Claims() != claims || is != clash || !equal(was, toldOf(w.Arena)) {
			t.Error("something changed", w.solver.Claims(), is)
		}
	}
	if e := w.solver.Claim(0, 0); e != api.ErrArg {
		t.Error(e)
	}
	w.part("V")
	refused(0, false)
	w.claim("int", "V", api.OK)
	w.claim("V", "W1", api.OK)
	refused(2, false)
	w.claim("V", "W1 -> any", api.ErrClash)
	refused(2, true)
	// What was no part is one, when it has come.
	w = newWorld(t, 20)
	w.part("V")
	if e := w.solver.Claim(1, 0); e != api.ErrArg {
		t.Error(e)
	}
	w.part("int")
	w.claim("int", "V", api.OK)
}

// P13.2: Raise without an arena, of numbers that are no parts, to levels below 0.
func TestRaiseRefused(t *testing.T) {
	for _, i := range append(outside(1), 0) {
		for _, level := range []int{0, 1, -1, most, least} {
			for _, up := range []bool{true, false} {
				if by, e := solve.Raise(nil, i, level, up); by != 0 || e != api.ErrArg {
					t.Error(i, level, by, e)
				}
			}
		}
	}
	w := newWorld(t, 20)
	w.claim("{a: V2}", "W1", api.OK)
	w.part("int")
	w.part("{a: {}} -> U0")
	was := toldOf(w.Arena)
	for _, up := range []bool{true, false} {
		for _, i := range outside(w.Len()) {
			for _, level := range []int{0, 1, 3, most, -1} {
				if by, e := solve.Raise(w.Arena, i, level, up); by != 0 || e != api.ErrArg {
					t.Error(i, level, by, e)
				}
			}
		}
		for i := range w.Len() {
			for _, level := range []int{-1, -2, least, least + 1, -1 << 32} {
				if by, e := solve.Raise(w.Arena, i, level, up); by != 0 || e != api.ErrArg {
					t.Error(i, level, by, e)
				}
			}
		}
	}
	if !equal(was, toldOf(w.Arena)) {
		t.Error("something changed")
	}
	// Of no part, or to no level, also where there is no room.
	full := newWorld(t, 2)
	full.part("{a: V2}")
	if by, e := solve.Raise(full.Arena, 2, 0, true); by != 0 || e != api.ErrArg {
		t.Error(by, e)
	}
	if by, e := solve.Raise(full.Arena, 1, -1, true); by != 0 || e != api.ErrArg {
		t.Error(by, e)
	}
	if by, e := solve.Raise(full.Arena, 1, 0, true); by != 0 || e != api.ErrLimit {
		t.Error(by, e)
	}
}

// R5: what is answered hangs on nothing but what was claimed: the same again tells the same, whatever is done to others between.
func TestDoneAgain(t *testing.T) {
	for number := range 300 {
		a, chance := scene(number, 3, -1)
		b, _ := scene(number, 3, -1)
		between, _ := scene(number+1, 4, -1)
		s, other, third := solve.New(a), solve.New(b), solve.New(between)
		for _, x := range anyClaims(chance, a.Len()) {
			e := s.Claim(x.below, x.above)
			third.Claim(0, 1)
			if f := other.Claim(x.below, x.above); e != f {
				t.Fatal(number, x, e, f)
			}
			i, j, clash := s.Clash()
			if k, l, too := other.Clash(); i != k || j != l || clash != too {
				t.Fatal(number, x, i, j, k, l)
			}
			if !equal(toldOf(a), toldOf(b)) {
				t.Fatal(number, x, "the arenas aren't alike")
			}
		}
		i := chance.Intn(a.Len())
		by, e := solve.Raise(a, i, 0, true)
		third.Claim(1, 0)
		if too, f := solve.Raise(b, i, 0, true); by != too || e != f || !equal(toldOf(a), toldOf(b)) {
			t.Fatal(number, i, by, e, too, f)
		}
	}
}
