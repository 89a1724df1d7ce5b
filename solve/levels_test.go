package solve_test

import (
	"slices"
	"testing"

	"azimuth/api"
)

// P13.1, P13.2: two variables of unlike levels: the one of the lesser level is a bound of the other one, not the other way round, and no part is asked for.
func TestTwoLevels(t *testing.T) {
	for _, x := range []struct {
		below, above string
		low, high    bool // is it noted below this, and above that?
	}{
		{"A0", "B1", true, false},
		{"A1", "B0", false, true},
		{"A3", "B3", true, true},
		{"A0", "B0", true, true},
		{"A2", "B7", true, false},
		{"A7", "B2", false, true},
	} {
		w := newWorld(t, 2)
		w.claim(x.below, x.above, api.OK)
		a, b := w.part(x.below), w.part(x.above)
		if low, high := slices.Contains(w.Low(b), a), slices.Contains(w.High(a), b); low != x.low || high != x.high {
			t.Errorf("%s below %s: %v, %v", x.below, x.above, low, high)
		}
		if w.Len() != 2 {
			t.Errorf("%s below %s: %d parts", x.below, x.above, w.Len())
		}
	}
}

// P13.1, P13.2: a head of a level above, or not above, that of a variable, either way: which bound is noted, and of which level.
func TestHeadOfLevel(t *testing.T) {
	for _, x := range []struct {
		head, variable string
		raised         bool
	}{
		{"{a: A2}", "V2", false},
		{"{a: A2}", "V3", false},
		{"{a: A2}", "V1", true},
		{"{a: A2}", "V0", true},
		{"{a: A2, b: B0}", "V1", true},
		{"{a: A1, b: B0}", "V1", false},
		{"A1 -> B2", "V1", true},
		{"A2 -> B1", "V1", true},
		{"A2 -> B2", "V2", false},
		{"int -> str", "V0", false},
		{"[#a {b: A5} | ..]", "V4", true},
		{"[#a {b: A5}]", "V5", false},
		{"type A = {a: A}; A", "V0", false},
	} {
		for _, above := range []bool{true, false} {
			w := newWorld(t, 40)
			h, v := w.part(x.head), w.part(x.variable)
			n := w.Len()
			one, other := x.variable, x.head
			if !above {
				one, other = other, one
			}
			w.claim(one, other, api.OK)
			bounds, none := w.High(v), w.Low(v)
			if !above {
				bounds, none = none, bounds
			}
			if len(bounds) != 1 || len(none) > 0 {
				t.Fatalf("%s, %s: %v, %v", one, other, bounds, none)
			}
			if raised := bounds[0] >= n; raised != x.raised || !raised && bounds[0] != h || raised && w.Level(bounds[0]) != w.Level(v) {
				t.Errorf("%s below %s: bounded by %d, of level %d", one, other, bounds[0], w.Level(bounds[0]))
			}
		}
	}
}

// P13.1, P13.3: what is claimed of a variable, of a head raised to it, and of what is in that head, ahead of the raising and behind it, goes on to the other ones.
func TestAcrossLevels(t *testing.T) {
	for _, row := range []struct {
		claims [][2]string
		want   api.Errno // of the last one
	}{
		{[][2]string{{"V0", "{a: A1}"}, {"{a: int}", "V0"}, {"A1", "int"}}, api.OK},
		{[][2]string{{"V0", "{a: A1}"}, {"{a: int}", "V0"}, {"A1", "str"}}, api.ErrClash},
		{[][2]string{{"V0", "{a: A1}"}, {"A1", "str"}, {"{a: int}", "V0"}}, api.ErrClash},
		{[][2]string{{"A1", "str"}, {"V0", "{a: A1}"}, {"{a: int}", "V0"}}, api.ErrClash},
		{[][2]string{{"A1", "B1"}, {"V0", "{a: A1}"}, {"{a: int}", "V0"}, {"B1", "str"}}, api.ErrClash},
		{[][2]string{{"V0", "{a: A1}"}, {"A1", "B1"}, {"{a: int}", "V0"}, {"B1", "str"}}, api.ErrClash},
		{[][2]string{{"{a: A1}", "V0"}, {"int", "A1"}, {"V0", "{a: str}"}}, api.ErrClash},
		{[][2]string{{"{a: A1}", "V0"}, {"V0", "{a: str}"}, {"int", "A1"}}, api.ErrClash},
		{[][2]string{{"int", "A1"}, {"{a: A1}", "V0"}, {"V0", "{a: str}"}}, api.ErrClash},
		{[][2]string{{"{a: A1}", "V0"}, {"V0", "{a: str}"}, {"A1", "int"}}, api.OK},
		{[][2]string{{"A1 -> B1", "V0"}, {"V0", "int -> str"}, {"A1", "any"}, {"none", "B1"}, {"A1", "dyn"}}, api.ErrClash},
		{[][2]string{{"A1 -> B1", "V0"}, {"V0", "int -> str"}, {"A1", "any"}, {"none", "B1"}, {"dyn", "B1"}}, api.ErrClash},
		{[][2]string{{"A1 -> A1", "V0"}, {"V0", "int -> B0"}, {"B0", "str"}}, api.ErrClash},
		{[][2]string{{"A1 -> A1", "V0"}, {"V0", "B0 -> str"}, {"int", "B0"}}, api.ErrClash},
		{[][2]string{{"A1 -> A1", "V0"}, {"V0", "B0 -> str"}, {"str", "B0"}}, api.OK},
		// each level handing on to the next one, up and down
		{[][2]string{{"{a: A3}", "B2"}, {"B2", "C1"}, {"C1", "D0"}, {"D0", "{a: str}"}, {"int", "A3"}}, api.ErrClash},
		{[][2]string{{"int", "A3"}, {"{a: A3}", "B2"}, {"B2", "C1"}, {"C1", "D0"}, {"D0", "{a: str}"}}, api.ErrClash},
		{[][2]string{{"D0", "C1"}, {"C1", "B2"}, {"B2", "{a: A3}"}, {"A3", "str"}, {"{a: int}", "D0"}}, api.ErrClash},
		{[][2]string{{"D0", "C1"}, {"C1", "B2"}, {"{a: int}", "D0"}, {"B2", "{a: A3}"}, {"A3", "str"}}, api.ErrClash},
		{[][2]string{{"D0", "C1"}, {"C1", "B2"}, {"{a: int}", "D0"}, {"B2", "{a: A3}"}, {"A3", "any"}}, api.OK},
		{[][2]string{{"A3", "B0"}, {"B0", "C3"}, {"C3", "D0"}, {"int", "A3"}, {"D0", "str"}}, api.ErrClash},
		{[][2]string{{"B0", "C3"}, {"C3", "D0"}, {"A3", "B0"}, {"D0", "str"}, {"int", "A3"}}, api.ErrClash},
		{[][2]string{{"A0", "B3"}, {"B3", "C0"}, {"int", "A0"}, {"C0", "str"}}, api.ErrClash},
		{[][2]string{{"B3", "C0"}, {"A0", "B3"}, {"C0", "str"}, {"int", "A0"}}, api.ErrClash},
		{[][2]string{{"A0", "B3"}, {"int", "A0"}, {"C0", "str"}, {"B3", "C0"}}, api.ErrClash},
		{[][2]string{{"A0", "B3"}, {"B3", "C0"}, {"int", "C0"}, {"A0", "str"}}, api.OK},
		// a head that goes round by bounds, above and below
		{[][2]string{{"A2", "{a: A2}"}, {"V0", "A2"}, {"{a: {a: {b: int}}}", "V0"}}, api.ErrClash},
		{[][2]string{{"A2", "{a: A2}"}, {"V0", "A2"}, {"type A = {a: A}; A", "V0"}}, api.OK},
		{[][2]string{{"{a: A2}", "A2"}, {"A2", "V0"}, {"V0", "{a: {a: int}}"}}, api.ErrClash},
		{[][2]string{{"A2", "V0"}, {"V0", "{a: {a: B1}}"}, {"{a: A2}", "A2"}, {"B1", "{b: any}"}}, api.ErrClash},
		{[][2]string{{"A2 -> A2", "A2"}, {"A2", "V1"}, {"V1", "V0"}, {"V0", "(int -> none) -> any"}}, api.ErrClash},
		{[][2]string{{"A2 -> A2", "A2"}, {"A2", "V1"}, {"V1", "V0"}, {"V0", "none -> any"}}, api.OK},
		// what an open variant hasn't is any, at all levels
		{[][2]string{{"[..]", "V0"}, {"V0", "[#a A2 | ..]"}, {"A2", "B1"}, {"B1", "int"}}, api.ErrClash},
		{[][2]string{{"[..]", "V0"}, {"V0", "[#a A2 | ..]"}, {"A2", "B1"}, {"B1", "any"}, {"C0", "B1"}}, api.OK},
		{[][2]string{{"A2", "int"}, {"V0", "[#a A2 | ..]"}, {"[..]", "V0"}}, api.ErrClash},
	} {
		w := newWorld(t, 400)
		last := len(row.claims) - 1
		for i, x := range row.claims {
			want := api.OK
			if i == last {
				want = row.want
			}
			w.claim(x[0], x[1], want)
		}
	}
}

// P13.1: of a clash of heads that were raised those are told that were claimed.
func TestClashOfRaised(t *testing.T) {
	w := newWorld(t, 100)
	w.claim("V0", "{a: A3, b: B3}", api.OK)
	w.claim("V0", "W0", api.OK)
	w.claim("{a: int}", "V0", api.ErrClash)
	if i, j, _ := w.solver.Clash(); i != w.part("{a: int}") || j != w.part("{a: A3, b: B3}") {
		t.Error(i, j)
	}
	// So also of one that was raised by this same claim, and of one raised twice.
	w = newWorld(t, 100)
	w.claim("{a: int}", "V0", api.OK)
	n := w.Len()
	w.claim("V0", "{a: A3, b: B3}", api.ErrClash)
	if i, j, _ := w.solver.Clash(); i != w.part("{a: int}") || j != w.part("{a: A3, b: B3}") || w.Len() != n+3 {
		t.Error(i, j, w.Len())
	}
	w = newWorld(t, 100)
	w.claim("A3 -> A3", "V2", api.OK)
	w.claim("V2", "V1", api.OK)
	w.claim("V1", "V0", api.OK)
	w.claim("V0", "{}", api.ErrClash)
	if i, j, _ := w.solver.Clash(); i != w.part("A3 -> A3") || j != w.part("{}") {
		t.Error(i, j)
	}
}

// P13.1: of a clash of any, which an open variant has where it has no name, an any is told: one that is there, or a new one.
func TestClashOfAny(t *testing.T) {
	for _, there := range []bool{true, false} {
		for _, far := range []bool{true, false} {
			w := newWorld(t, 100)
			if there {
				w.part("any")
			}
			if far {
				w.claim("[#b int | ..]", "[#a V | ..]", api.OK)
				w.part("str")
				n := w.Len()
				w.claim("V", "str", api.ErrClash)
				if w.Len() != n {
					t.Error("parts came in")
				}
			} else {
				w.part("[#b int | ..]")
				w.part("[#a str | ..]")
				w.claim("[#b int | ..]", "[#a str | ..]", api.ErrClash)
			}
			i, j, _ := w.solver.Clash()
			if h, ok := w.At(i); !ok || h.Kind != api.TAny || there && i != w.part("any") {
				t.Error(there, far, i, h, ok)
			}
			if h, ok := w.At(j); !ok || h.Kind != api.TStr {
				t.Error(there, far, j, h, ok)
			}
		}
	}
}

// P13.1: any is one part, however often it is asked for.
func TestOneAny(t *testing.T) {
	for _, there := range []bool{true, false} {
		w := newWorld(t, 100)
		if there {
			w.part("any")
		}
		for _, x := range [][2]string{{"[..]", "[#a A | ..]"}, {"[#a B | ..]", "[#c C1 | ..]"}, {"[#b int | ..]", "[#d D | #e E | ..]"}, {"V", "[#a F2 | ..]"}, {"[..]", "V"}} {
			w.claim(x[0], x[1], api.OK)
		}
		anys := 0
		for _, h := range w.Parts() {
			if h.Kind == api.TAny {
				anys++
			}
		}
		if anys != 1 {
			t.Error(there, anys)
		}
	}
}
