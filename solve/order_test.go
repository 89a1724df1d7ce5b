package solve_test

import (
	"fmt"
	"maps"
	"slices"
	"strings"
	"testing"

	"azimuth/api"
)

// rows of claims, and whether a clash follows from all of them.
func rows() map[string]bool {
	return map[string]bool{
		// through a variable, and through rows of them
		"int < V; V < int":                                      false,
		"int < V; V < str":                                      true,
		"int < V; str < V":                                      false,
		"V < int; V < str":                                      false,
		"int < V; str < V; V < any":                             false,
		"int < V; str < V; V < int":                             true,
		"V < int; V < str; none < V":                            false,
		"V < int; V < str; int < V":                             true,
		"any < V; V < any":                                      false,
		"any < V; V < dyn":                                      true,
		"dyn < V; V < any":                                      false,
		"dyn < V; V < dyn":                                      false,
		"dyn < V; V < int":                                      true,
		"int < V; V < dyn":                                      true,
		"none < V; V < int; V < str; V < none":                  false,
		"V < none; int < V":                                     true,
		"A < B; B < C; C < D":                                   false,
		"A < B; B < C; C < D; int < A":                          false,
		"A < B; B < C; C < D; int < A; D < str":                 true,
		"A < B; B < C; C < D; int < B; C < str":                 true,
		"A < B; B < C; C < D; int < C; B < str":                 false,
		"A < B; B < C; C < D; int < D; A < str":                 false,
		"A < B; A < C; int < A; B < int; C < str":               true,
		"A < C; B < C; int < A; str < B; C < any":               false,
		"A < C; B < C; int < A; str < B; C < int":               true,
		"A < C; B < C; C < D; C < E; int < A; E < {}":           true,
		"A < C; B < C; C < D; C < E; int < A; D < int; E < any": false,
		// that go round
		"A < B; B < A; int < A; B < int":                                   false,
		"A < B; B < A; int < B; B < str":                                   true,
		"A < B; B < A; int < A; A < str":                                   true,
		"A < B; B < C; C < A; int < B; A < str":                            true,
		"A < B; B < C; C < A; int < B; A < int; C < any":                   false,
		"A < A; int < A; A < str":                                          true,
		"A < {a: A}; {a: {a: {}}} < A":                                     true,
		"A < {a: A}; {a: {a: none}} < A":                                   false,
		"{a: A} < A; A < {a: {a: {}}}":                                     false,
		"{a: A} < A; A < {a: {a: int}}":                                    true,
		"A < {a: A}; {b: int} < A":                                         true,
		"{a: A} < A; A < {a: B}; B < {b: any}":                             true,
		"A < B -> A; B < A; int -> int < A":                                true,
		"A < int -> A; B < A; A < B":                                       false,
		"A < int -> A; A < B; B < int -> str":                              false,
		"A < int -> A; any -> C < A; C < any -> none":                      false,
		"A < int -> A; any -> C < A; C < any":                              false,
		"A < int -> A; any -> C < A; int < C":                              true,
		"type T = {a: T}; T < A; A < {a: A}":                               false,
		"type T = {a: T}; T < A; A < {a: {a: B}}; B < {b: any}":            true,
		"type T = [#a T | #b int]; T < A; A < [#a A | #b B | ..]; B < int": false,
		"type T = [#a T | #b int]; T < A; A < [#a A | #b B | ..]; B < str": true,
		// kids of functions
		"A -> B < int -> str":                                     false,
		"A -> B < int -> str; A < int; str < B":                   false,
		"A -> B < int -> str; A < str":                            true,
		"A -> B < int -> str; int < B":                            true,
		"A -> B < C -> D; int < C; A < str":                       true,
		"A -> B < C -> D; int < A; C < str":                       false,
		"A -> B < C -> D; int < B; D < str":                       true,
		"A -> B < C -> D; int < D; B < str":                       false,
		"A -> B < (int -> C) -> D; A < E -> F; F < G":             false,
		"A -> B < (int -> C) -> D; A < str -> F":                  true,
		"(A -> int) -> int < (B -> int) -> int; int < A; B < str": true,
		"(A -> int) -> int < (B -> int) -> int; int < B; A < str": false,
		"A < B -> C; D -> E < A; F < B; int < F; D < str":         true,
		"A < B -> C; D -> E < A; int < E; C < str":                true,
		"A -> A < B -> C; int < B; C < str":                       true,
		"A -> A < B -> C; int < C; B < str":                       false,
		"A < {}; int -> int < A":                                  true,
		"A -> B < {}":                                             true,
		// of records
		"{a: A, b: B} < {a: C}; int < A; C < str":                    true,
		"{a: A, b: B} < {a: C}; int < B; C < str":                    false,
		"{a: A, b: B} < {b: C}; int < B; C < str":                    true,
		"{a: A} < {a: B, b: C}":                                      true,
		"{a: A} < D; D < {a: B}; D < {b: C}":                         true,
		"{a: A, b: B} < D; D < {a: C}; D < {b: E}; int < B; E < str": true,
		"{a: A, b: B} < D; D < {a: C}; D < {b: E}; int < B; C < str": false,
		"{} < D; D < {}; D < any":                                    false,
		"{a: {b: A}} < {a: {b: B}}; A < int; int < A; B < int":       false,
		"{a: {b: A}} < {a: {b: B}}; int < A; B < str":                true,
		// of variants
		"[#a A] < [#a B | #b C]; int < A; B < str":                    true,
		"[#a A] < [#a B | #b C]; int < A; C < str":                    false,
		"[#a A | #b B] < [#a C]":                                      true,
		"[#a A | #b B] < [#a C | ..]; int < B":                        false,
		"[#a A | #b B] < [#a C | ..]; int < A; C < str":               true,
		"[#a A] < D; [#b B] < D; D < [#a C | #b E]; int < B; E < str": true,
		"[#a A] < D; [#b B] < D; D < [#a C]":                          true,
		"[#a A] < D; [#b B] < D; D < [#a C | ..]; int < B":            false,
		"[] < D; D < []":                              false,
		"[..] < D; D < []":                            true,
		"[#a A | ..] < [#a B]":                        true,
		"[#a A | ..] < [#a B | ..]; int < A; B < str": true,
		"[#a A | ..] < [#a B | ..]; int < B; A < str": false,
		"[] < [..]":                                   false,
		// what an open one hasn't is any
		"[..] < [#a A | ..]":                                        false,
		"[..] < [#a A | ..]; A < any":                               false,
		"[..] < [#a A | ..]; A < int":                               true,
		"[..] < [#a A | ..]; A < B; B < {}":                         true,
		"[..] < [#a A | ..]; A < B; B < any; int < A":               false,
		"[#a A | ..] < [#a int | #b B | ..]; B < C; C < dyn":        true,
		"[#a A | ..] < [#a int | #b any | ..]; str < A":             true,
		"[#a A | ..] < [#a int | #b any | ..]; none < A":            false,
		"[#b A | ..] < [#a B | #b C | #c D | ..]; B < any; D < str": true,
		"[#b A | ..] < [#a B | #b C | #c D | ..]; int < A; C < int": false,
		"[#b A | ..] < [#a none | ..]":                              true,
		"A < [#a B | ..]; [..] < A; B < int":                        true,
		"A < [#a B | ..]; [] < A; B < int":                          false,
		"[#a [..]] < [#a [#b A | ..]]; A < int":                     true,
		"[#a [..]] < [#a [#b A | ..]]; int < A":                     false,
		"[#a A] -> int < [..] -> int":                               true,
		"[#a A | ..] -> int < [..] -> int; A < int":                 true,
		"[#a A | ..] -> int < [..] -> int":                          false,
		"any < A; A < B; [#a B | ..] < [#a any | ..]":               false,
		// none on the left, any on the right: their kids are nothing to them
		"none < A -> B; int < B":         false,
		"A -> B < any; int < A; A < int": false,
		"none < {a: A}; A < int":         false,
		"{a: A} < any; str < A":          false,
		"any < none":                     true,
		"any < {}":                       true,
		"[] < none":                      true,
		"A < none; none < A":             false,
		// of two kinds
		"int < str": true, "int < A -> B": true, "{a: A} < [#a A]": true, "[#a A | ..] < {a: A}": true, "dyn < {}": true, "bool < float": true,
		"A -> B < C; C < {a: D}": true, "{} < C; C < [..]": true, "[] < C; C < D -> D": true, "float < C; C < D; D < bool": true,
	}
}

// read: the claims of a row; an alias's own ";" has none of their signs behind it.
func read(row string) (l [][2]string) {
	text := ""
	for _, piece := range strings.Split(row, ";") {
		text += strings.TrimSpace(piece)
		if one, other, whole := strings.Cut(text, " < "); whole {
			l = append(l, [2]string{one, other})
			text = ""
		} else {
			text += "; "
		}
	}
	return l
}

// levels by which the variables of a row may stand: each by its name.
func levels() map[string]func(name string) int {
	letter := func(name string) int { return int(name[0] - 'A') }
	return map[string]func(string) int{
		"0":       func(string) int { return 0 },
		"7":       func(string) int { return 7 },
		"rising":  letter,
		"falling": func(name string) int { return 30 - letter(name) },
		"two":     func(name string) int { return letter(name) % 2 },
		"turned":  func(name string) int { return 1 - letter(name)%2 },
		"three":   func(name string) int { return letter(name) * 2 % 3 },
		"far":     func(name string) int { return letter(name) % 2 * most },
		"mixed":   func(name string) int { return letter(name) * 5 % 7 },
	}
}

// claimAll claims a row's claims; from the first clash on all are refused.
func claimAll(w *world, claims [][2]string) api.Errno {
	w.t.Helper()
	last := api.OK
	for _, x := range claims {
		e := w.claimed(w.part(x[0]), w.part(x[1]))
		if last != api.OK && e != last {
			w.t.Fatalf("behind %d: %d", last, e)
		}
		last = e
	}
	return last
}

// orders: some orders of so many things, all of them if there are few.
func orders(n int) (l [][]int) {
	if n == 0 {
		return [][]int{{}}
	}
	for i, shorter := range orders(n - 1) {
		if i == 24 {
			break
		}
		for at := range n {
			l = append(l, slices.Insert(slices.Clone(shorter), at, n-1))
		}
	}
	return l
}

// P13.1, P13.3: whether a clash follows hangs on the claims alone, neither on their order nor on levels; nor on the order in which the parts came in the arena.
func TestRows(t *testing.T) {
	for row, clash := range rows() {
		want := api.OK
		if clash {
			want = api.ErrClash
		}
		claims := read(row)
		for name, level := range levels() {
			for n, order := range orders(len(claims)) {
				w := newWorld(t, 400)
				w.level = level
				if n%2 == 0 {
					for _, x := range claims {
						w.part(x[1])
						w.part(x[0])
					}
				}
				var turned [][2]string
				for _, i := range order {
					turned = append(turned, claims[i])
				}
				if e := claimAll(w, turned); e != want {
					t.Fatalf("%s, in the order %v, levels %s: %d", row, order, name, e)
				}
			}
		}
	}
}

// P13.1: of a row of claims from which a clash follows the clash is told at the last one, whatever is claimed behind each; without any of them there is none, if the row has none to spare.
func TestRowsWithoutOne(t *testing.T) {
	spare := 0
	for _, row := range slices.Sorted(maps.Keys(rows())) {
		if !rows()[row] {
			continue
		}
		claims := read(row)
		for without := range claims {
			w := newWorld(t, 400)
			if claimAll(w, slices.Delete(slices.Clone(claims), without, without+1)) == api.ErrClash {
				spare++
				continue
			}
			w.claim("int", "Z", api.OK)
			w.claim(claims[without][0], claims[without][1], api.ErrClash)
			w.claim("int", "Z", api.ErrClash)
		}
	}
	if spare > 30 {
		t.Error(spare)
	}
}

// P13.3: a long row of claims, in several orders and at several levels: the same clash far away.
func TestFarAway(t *testing.T) {
	const n = 40
	var claims [][2]string
	claims = append(claims, [2]string{"int", "V0x"})
	name := func(i int) string { return fmt.Sprintf("V%dx", i) }
	for i := range n {
		switch one, other := name(i), name(i+1); i % 4 {
		case 0:
			claims = append(claims, [2]string{one, other})
		case 1:
			claims = append(claims, [2]string{"{a: " + one + ", b: str}", "{a: " + other + "}"})
		case 2:
			claims = append(claims, [2]string{other + " -> int", one + " -> any"})
		case 3:
			claims = append(claims, [2]string{"[#a " + one + "]", "U" + fmt.Sprint(i)}, [2]string{"U" + fmt.Sprint(i), "[#a " + other + " | ..]"})
		}
	}
	for i := range 12 {
		for _, end := range []string{"int", "str"} {
			chance := by(i)
			w := newWorld(t, 4000)
			at := map[string]int{}
			w.level = func(name string) int {
				if _, known := at[name]; !known {
					at[name] = chance.Intn(1 + i%5)
				}
				return at[name]
			}
			all := append(slices.Clone(claims), [2]string{name(n), end})
			chance.Shuffle(len(all), func(i, j int) { all[i], all[j] = all[j], all[i] })
			want := api.OK
			if end == "str" {
				want = api.ErrClash
			}
			if e := claimAll(w, all); e != want {
				t.Errorf("%d, %s: %d", i, end, e)
			}
		}
	}
}
