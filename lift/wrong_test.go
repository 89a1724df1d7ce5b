package lift_test

import (
	"slices"
	"testing"

	"azimuth/api"
	"azimuth/arena"
	"azimuth/lift"
)

// outside: numbers that none of so many parts has.
func outside(n int) []int {
	return []int{-1, -2, n, n + 1, -n, -n - 1, most, most - 1, least, least + 1, 1 << 32, n - 1 + 1<<32, -1 << 32, 1 << 31, 1<<31 - 1}
}

func negative() []int { return []int{-1, -2, -1 << 31, -1 << 32, least, least + 1} }

// P14.1: without an arena: ErrArg, nothing, 0, of any numbers; so of one that nothing made, and of one without parts.
func TestWithoutArena(t *testing.T) {
	empty, _ := arena.New(1)
	for _, a := range []*arena.Arena{nil, {}, empty} {
		for _, i := range append(outside(1), 0) {
			for _, above := range append(negative(), 0, 1, most) {
				for _, level := range []int{0, 1, -1, most, least} {
					if k, e := lift.Fresh(a, i, above, level); k != 0 || e != api.ErrArg {
						t.Error(i, above, level, k, e)
					}
				}
				if l := lift.Reach(a, i, above); len(l) > 0 {
					t.Error(i, above, l)
				}
				if n := lift.Free(a, i, above); n != 0 {
					t.Error(i, above, n)
				}
			}
		}
		if a.Len() != 0 {
			t.Error(a.Len())
		}
	}
}

// someParts: a few parts in an arena with room for so many more.
func someParts(t *testing.T, room int) *world {
	t.Helper()
	w, _ := roomFor(t, "{a: V2, b: int -> W0}", []string{"V2 < str", "V2 > U3", "U3 < V2", "W0 < int"}, room)
	return w
}

// P14.1, R3: numbers that are no parts, and levels below 0, alone and together: ErrArg, and nothing is changed; also where there is no room.
func TestRefused(t *testing.T) {
	for _, room := range []int{0, 1, 50} {
		w := someParts(t, room)
		for _, i := range outside(w.Len()) {
			for _, above := range append(negative(), 0, 1, most) {
				for _, level := range append(negative(), 0, 2, most) {
					refused(t, w.Arena, i, above, level, api.ErrArg)
				}
				asked(t, w.Arena, i, above)
			}
		}
		for i := range w.Len() {
			for _, wrong := range negative() {
				for _, level := range []int{0, 1, 3, most} {
					refused(t, w.Arena, i, wrong, level, api.ErrArg)
					refused(t, w.Arena, i, level, wrong, api.ErrArg)
				}
				refused(t, w.Arena, i, wrong, wrong, api.ErrArg)
				asked(t, w.Arena, i, wrong)
			}
		}
	}
}

// P14.1: the greatest levels may be: above one nothing is, to one a fresh one is made.
func TestGreatestLevels(t *testing.T) {
	w := someParts(t, 100)
	for i := range w.Len() {
		if k, _ := fresh(t, w.Arena, i, most, most); k != i {
			t.Error(i, k)
		}
		fresh(t, w.Arena, i, 0, most)
	}
	n := w.Len()
	for i := range n {
		fresh(t, w.Arena, i, most-1, 0)
		asked(t, w.Arena, i, most)
		asked(t, w.Arena, i, most-1)
	}
}

// What was no part is one, when it has come.
func TestPartThatComes(t *testing.T) {
	w := newWorld(t, 5)
	w.part("V1")
	refused(t, w.Arena, 1, 0, 0, api.ErrArg)
	w.part("W1")
	if k, _ := fresh(t, w.Arena, 1, 0, 0); k != 2 {
		t.Error(k)
	}
	if l := lift.Reach(w.Arena, 2, 0); !slices.Equal(l, []int{2}) {
		t.Error(l)
	}
}

// P14.2: what Reach tells is new memory, its spare room too: what becomes of it is nothing to the arena, nor to what is told next.
func TestNewMemory(t *testing.T) {
	for _, bounds := range rounds() {
		w := newWorld(t, 60)
		w.bind(bounds...)
		was := toldOf(w.Arena)
		for above := -1; above < 3; above++ {
			for i := range w.Len() {
				one, other := lift.Reach(w.Arena, i, above), lift.Reach(w.Arena, i, above)
				l := slices.Clone(other)
				for k := range one[:cap(one)] {
					one[:cap(one)][k] = -9
				}
				if !slices.Equal(other, l) || !equal(was, toldOf(w.Arena)) {
					t.Errorf("Reach of %d above %d shares memory", i, above)
				}
				asked(t, w.Arena, i, above)
			}
		}
	}
}

// R5: what is answered hangs on nothing but the arena: the same again tells the same, whatever is done to others between.
func TestDoneAgain(t *testing.T) {
	for number := range 300 {
		a, chance := scene(number, 0, 3)
		b, _ := scene(number, 0, 3)
		between, other := scene(number+1, 0, 3)
		for range 4 {
			i, above, level := chance.Intn(a.Len()), chance.Intn(3), chance.Intn(4)
			k, e := lift.Fresh(a, i, above, level)
			lift.Fresh(between, other.Intn(between.Len()), other.Intn(3), other.Intn(3))
			if l, f := lift.Fresh(b, i, above, level); k != l || e != f || !equal(toldOf(a), toldOf(b)) {
				t.Fatal(number, i, above, level, k, e, l, f)
			}
		}
	}
}
