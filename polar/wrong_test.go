package polar_test

import (
	"testing"

	"azimuth/api"
	"azimuth/arena"
	"azimuth/polar"
)

// outside: numbers that none of so many parts has.
func outside(n int) []int {
	return []int{-1, -2, n, n + 1, -n, -n - 1, most, most - 1, least, least + 1, 1 << 32, n - 1 + 1<<32, -1 << 32, 1 << 31, 1<<31 - 1}
}

// refused asks for an automaton that can't be.
func refused(t *testing.T, a *arena.Arena, i, above, most int) {
	t.Helper()
	if x, e := polar.Of(a, i, above, most); e != api.ErrArg || !equal(x, polar.Auto{}) {
		t.Errorf("Of %d above %d, most %d: %s, %d", i, above, most, short(x), e)
	}
}

// P15.1: without an arena: ErrArg, of any numbers; so of one that nothing made, and of one without parts.
func TestWithoutArena(t *testing.T) {
	empty, _ := arena.New(1)
	for _, a := range []*arena.Arena{nil, {}, empty} {
		for _, i := range append(outside(1), 0) {
			for _, above := range []int{0, 1, -1, most, least} {
				for _, n := range []int{0, 1, 100, api.MaxStates, api.MaxStates + 1, -1, most, least} {
					refused(t, a, i, above, n)
				}
			}
		}
	}
	if empty.Len() != 0 {
		t.Error(empty.Len())
	}
}

// P15.1, R3: numbers that are no parts, and mosts that may not be, alone and together: ErrArg; also where there would be too many states.
func TestRefused(t *testing.T) {
	w := newWorld(t, 100)
	h := w.part("{a: V1, b: V2 -> int}")
	w.bind("V1 > str", "V2 > {c: V1}", "V2 < V1")
	was := toldOf(w.Arena)
	wrong := []int{0, -1, -2, api.MaxStates + 1, api.MaxStates + 2, 2 * api.MaxStates, most, most - 1, least, least + 1, 1<<32 + 1, 1 - 1<<32, 1 << 31, -1 << 31}
	for _, above := range []int{0, 1, -1, most, least} {
		for _, i := range outside(w.Len()) {
			for _, n := range append([]int{1, 2, 100, api.MaxStates - 1, api.MaxStates}, wrong...) {
				refused(t, w.Arena, i, above, n)
			}
		}
		for i := range w.Len() {
			for _, n := range wrong {
				refused(t, w.Arena, i, above, n)
			}
			of(t, w.Arena, i, above)
		}
		tooMany(t, w.Arena, h, above, 1)
	}
	if !asWas(was, toldOf(w.Arena)) {
		t.Error("the arena changes")
	}
}

// What was no part is one, when it has come.
func TestPartThatComes(t *testing.T) {
	w := newWorld(t, 5)
	w.part("V1")
	refused(t, w.Arena, 1, 0, 10)
	w.part("{a: V1}")
	if is := text(of(t, w.Arena, 1, 0), w.named); is != "+{a:1 +'V1" {
		t.Error(is)
	}
}

// R5: what is answered hangs on nothing but the parts: the same again tells the same, whatever is asked between.
func TestDoneAgain(t *testing.T) {
	for number := range 300 {
		a, _ := scene(number)
		b, _ := scene(number)
		between, chance := scene(number + 1)
		for i := range a.Len() {
			x, e := polar.Of(a, i, 1, 50)
			polar.Of(between, chance.Intn(between.Len()), chance.Intn(3), 50)
			y, f := polar.Of(b, i, 1, 50)
			if e != f || !equal(x, y) {
				t.Fatal(number, i, e, f, short(x), short(y))
			}
		}
	}
}
