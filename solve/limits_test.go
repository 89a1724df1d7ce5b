package solve_test

import (
	"fmt"
	"runtime"
	"testing"

	"azimuth/api"
	"azimuth/arena"
	"azimuth/solve"
)

// P13.1: how much room claims ask for: with just as much all are made, with less one is refused, and from then on all are.
func TestRoom(t *testing.T) {
	for _, x := range []struct {
		claims [][2]string
		asks   int
	}{
		{[][2]string{{"V", "V"}, {"int", "V"}, {"V", "W"}, {"{a: V}", "W"}, {"W", "any"}}, 0},
		{[][2]string{{"V0", "W1"}, {"W1", "V0"}, {"U5", "V0"}, {"int -> int", "W1"}}, 0},
		{[][2]string{{"{a: V}", "{a: W1}"}, {"V -> V", "W1 -> U2"}}, 0},
		{[][2]string{{"[#a V | ..]", "[#a W | #b any | ..]"}, {"[..]", "[#a V | ..]"}}, 0},
		{[][2]string{{"[..]", "[#a V | ..]"}}, 1},
		{[][2]string{{"[..]", "[#a V | ..]"}, {"[#a V | ..]", "[#b W3 | #c U1 | ..]"}}, 1},
		{[][2]string{{"[#a V]", "[#a V | #b W | ..]"}, {"[]", "[..]"}}, 0},
		{[][2]string{{"any", "U"}, {"[..]", "[#a V | ..]"}, {"[..]", "[#b U2 | ..]"}}, 0},
		{[][2]string{{"V0", "{a: A1}"}}, 2},
		{[][2]string{{"{a: A1}", "V0"}}, 2},
		{[][2]string{{"{a: A1}", "V0"}, {"V0", "{a: A1}"}}, 4},
		{[][2]string{{"A1 -> A1", "V0"}}, 3},
		{[][2]string{{"A1 -> int", "V0"}}, 2},
		{[][2]string{{"{a: A1, b: {c: B2}, d: W0}", "V0"}}, 4},
		{[][2]string{{"{b: {c: B2}, d: A1}", "V1"}}, 3},
		// what was raised once serves again: a variable of the same level, or one to which it is handed on
		{[][2]string{{"V0", "{a: A1}"}, {"W0", "{a: A1}"}, {"U0", "V0"}, {"V0", "{a: A1}"}}, 2},
		{[][2]string{{"{a: A1}", "V0"}, {"V0", "W0"}, {"{a: A1}", "W0"}}, 2},
		{[][2]string{{"V0", "{a: A1}"}, {"W0", "{b: A1}"}}, 3},
		{[][2]string{{"{a: A3}", "V2"}, {"V2", "V1"}, {"V1", "V0"}}, 6},
		{[][2]string{{"{a: A3}", "V2"}, {"V2", "V0"}, {"{a: A3}", "V0"}}, 4},
		{[][2]string{{"V0", "{a: A3}"}, {"V1", "{a: A3}"}, {"V2", "{a: A3}"}, {"V0", "V1"}, {"V1", "V2"}}, 6},
		// bounds of what is raised are raised, too
		{[][2]string{{"{b: A1}", "A1"}, {"{a: A1}", "V0"}}, 3},
		{[][2]string{{"A1", "{b: A1}"}, {"{a: A1}", "V0"}}, 2},
		{[][2]string{{"A1", "{b: A1}"}, {"V0", "{a: A1}"}}, 3},
		{[][2]string{{"{a: A1}", "V0"}, {"{b: A1}", "A1"}}, 3},
		{[][2]string{{"{a: A1}", "V0"}, {"int", "A1"}, {"W0", "A1"}}, 2},
	} {
		for room := range x.asks + 1 {
			w := newWorld(t, 100)
			for _, c := range x.claims {
				w.part(c[0])
				w.part(c[1])
			}
			n := w.Len()
			w = newWorld(t, n+room)
			for _, c := range x.claims {
				w.part(c[0])
				w.part(c[1])
			}
			last, made := api.OK, 0
			for _, c := range x.claims {
				was := roomyOf(w.Arena)
				e := w.solver.Claim(w.part(c[0]), w.part(c[1]))
				if e != api.OK {
					was.asWas(t, w.Arena, x, room, c)
				}
				if e == api.OK {
					made++
				}
				if e != api.OK && e != api.ErrLimit || last != api.OK && e != last || w.solver.Claims() != made {
					t.Fatalf("%v, room for %d: %d, %d claims", x, room, e, w.solver.Claims())
				}
				last = e
			}
			if (last == api.OK) != (room == x.asks) {
				t.Errorf("%v, room for %d: %d", x, room, last)
			}
			if last == api.OK && w.Len() != n+x.asks {
				t.Errorf("%v: %d parts came in", x, w.Len()-n)
			}
		}
	}
}

// P13.1: behind a full arena all claims are refused so, of whatever; numbers that are no parts are told first.
func TestBehindFull(t *testing.T) {
	w := newWorld(t, 6)
	w.claim("int", "V0", api.OK)
	for _, text := range []string{"{a: A1}", "str", "U0"} {
		w.part(text)
	}
	claim := func(one, other string, want api.Errno) {
		t.Helper()
		was := toldOf(w.Arena)
		if e := w.solver.Claim(w.part(one), w.part(other)); e != want {
			t.Errorf("%s below %s: %d; it is %d", one, other, e, want)
		}
		i, j, clash := w.solver.Clash()
		if w.solver.Claims() != 1 || i != 0 || j != 0 || clash || !equal(was, toldOf(w.Arena)) {
			t.Errorf("%s below %s: %d claims, clash %v", one, other, w.solver.Claims(), clash)
		}
	}
	claim("U0", "{a: A1}", api.ErrLimit)
	for _, x := range [][2]string{{"V0", "V0"}, {"int", "int"}, {"int", "V0"}, {"int", "str"}, {"V0", "str"}, {"V0", "{a: A1}"}, {"U0", "A1"}, {"U0", "{a: A1}"}} {
		claim(x[0], x[1], api.ErrLimit)
	}
	for _, i := range []int{-1, 6, 7, most, least} {
		if e := w.solver.Claim(i, 0); e != api.ErrArg {
			t.Error(i, e)
		}
		if e := w.solver.Claim(0, i); e != api.ErrArg {
			t.Error(i, e)
		}
	}
	// Another solver of it isn't refused, as long as it asks for no room.
	s := solve.New(w.Arena)
	if e := s.Claim(w.part("U0"), w.part("V0")); e != api.OK {
		t.Error(e)
	}
	if e := s.Claim(w.part("V0"), w.part("str")); e != api.ErrClash {
		t.Error(e)
	}
}

// P13.1: a clash is told ahead of a full arena, however far away it is: one of few parts, and one of as many as may be.
func TestClashAheadOfFull(t *testing.T) {
	for _, x := range []struct {
		ahead [][2]string
		last  [2]string
		want  api.Errno
	}{
		{[][2]string{{"{b: int}", "V0"}}, [2]string{"V0", "{a: A1}"}, api.ErrClash},
		{[][2]string{{"{a: int}", "V0"}, {"A1", "str"}}, [2]string{"V0", "{a: A1}"}, api.ErrClash},
		{[][2]string{{"{a: int}", "V0"}, {"A1", "int"}}, [2]string{"V0", "{a: A1}"}, api.ErrLimit},
		{[][2]string{{"V0", "W0"}, {"W0", "{b: {c: str}}"}, {"int", "B2"}, {"B2", "C0"}}, [2]string{"{b: {c: B2}, a: A1}", "V0"}, api.ErrClash},
		{[][2]string{{"V0", "W0"}, {"W0", "{b: {c: str}}"}, {"str", "B2"}, {"B2", "C0"}}, [2]string{"{b: {c: B2}, a: A1}", "V0"}, api.ErrLimit},
		{[][2]string{{"A1", "B2"}, {"B2", "C1"}, {"C1", "W0"}, {"W0", "str"}, {"V0", "U2"}, {"U2", "{a: any}"}}, [2]string{"{a: A1} -> A1", "(V0 -> int) -> int"}, api.ErrClash},
		{[][2]string{{"A1", "B2"}, {"B2", "C1"}, {"C1", "W0"}, {"W0", "str"}, {"{a: int} -> any", "V0"}}, [2]string{"V0", "{a: A1} -> A1"}, api.ErrClash},
		{[][2]string{{"A1", "B2"}, {"B2", "C1"}, {"C1", "W0"}, {"W0", "str"}, {"{a: any} -> none", "V0"}}, [2]string{"V0", "{a: A1} -> A1"}, api.ErrLimit},
		{[][2]string{{"A", "str"}}, [2]string{"[..]", "[#a A | ..]"}, api.ErrClash},
		{[][2]string{{"A", "B"}}, [2]string{"[..]", "[#a A | ..]"}, api.ErrLimit},
		{nil, [2]string{"[#b int | ..]", "[#a str | ..]"}, api.ErrClash},
	} {
		build := func(w *world) int {
			for _, c := range append(x.ahead, x.last) {
				w.part(c[0])
				w.part(c[1])
			}
			return w.Len()
		}
		n := build(newWorld(t, 100))
		for _, room := range []int{n, api.MaxArena} {
			w := newWorld(t, room)
			build(w)
			for w.Len() < room {
				w.Var(9)
			}
			for _, c := range x.ahead {
				if e := w.solver.Claim(w.part(c[0]), w.part(c[1])); e != api.OK {
					t.Fatal(x, c, e)
				}
			}
			was := toldOfFirst(w.Arena, n)
			e := w.solver.Claim(w.part(x.last[0]), w.part(x.last[1]))
			if e != x.want || !equal(was, toldOfFirst(w.Arena, n)) || w.Len() != room {
				t.Errorf("%v, of %d parts: %d", x, room, e)
			}
			i, j, clash := w.solver.Clash()
			if clash != (x.want == api.ErrClash) {
				t.Error(x, clash)
			}
			_, isHead := w.At(i)
			if _, too := w.At(j); clash && !(isHead && too) {
				t.Error(x, i, j)
			}
		}
	}
}

// variables: so many in an arena, each of its level, and a solver.
func variables(t *testing.T, n int, level func(i int) int) (*arena.Arena, *solve.Solver) {
	t.Helper()
	a, e := arena.New(api.MaxArena)
	if e != api.OK {
		t.Fatal(e)
	}
	for i := range n {
		a.Var(level(i))
	}
	return a, solve.New(a)
}

// P13.1: long rows of variables, claimed from the one end, from the other one, and from all over; heads that come at each end.
func TestLongRows(t *testing.T) {
	const n = 50000
	for name, level := range map[string]func(int) int{
		"one level": func(int) int { return 3 },
		"rising":    func(i int) int { return i },
		"falling":   func(i int) int { return n - i },
		"by turns":  func(i int) int { return i % 2 },
		"mixed":     func(i int) int { return i * 7 % 5 },
	} {
		for _, step := range []int{1, n - 2, 17389} { // they share no factor with n - 1
			for _, early := range []bool{true, false} {
				a, s := variables(t, n, level)
				integer, _ := a.Head(api.Head{Kind: api.TInt})
				text, _ := a.Head(api.Head{Kind: api.TStr})
				claim := func(i, j int, want api.Errno) {
					t.Helper()
					if e := s.Claim(i, j); e != want {
						t.Fatalf("%s, step %d: %d below %d: %d", name, step, i, j, e)
					}
				}
				if early {
					claim(integer, 0, api.OK)
				}
				for k := range n - 1 {
					i := k * step % (n - 1)
					claim(i, i+1, api.OK)
				}
				claim(n-1, integer, api.OK)
				claim(text, n-1, api.ErrClash)
				if !early {
					s = solve.New(a)
					claim(integer, 0, api.OK)
				} else {
					s = solve.New(a)
				}
				claim(n-1, text, api.ErrClash)
			}
		}
	}
}

// P13.1: many heads below and above one variable, many variables, and both.
func TestStars(t *testing.T) {
	const n = 600
	for _, heads := range []bool{true, false} {
		a, s := variables(t, 2*n+1, func(i int) int { return i % 3 })
		for i := range n {
			low, high := i, n+i
			if heads {
				low, _ = a.Head(api.Head{Kind: api.TRecord, Names: []string{"a", "b"}, Kids: []int{i, i}})
				high, _ = a.Head(api.Head{Kind: api.TRecord, Names: []string{"a"}, Kids: []int{n + i}})
			}
			if e := s.Claim(low, 2*n); e != api.OK {
				t.Fatal(e)
			}
			if e := s.Claim(2*n, high); e != api.OK {
				t.Fatal(e)
			}
		}
		integer, _ := a.Head(api.Head{Kind: api.TInt})
		text, _ := a.Head(api.Head{Kind: api.TStr})
		if e := s.Claim(integer, 7); e != api.OK {
			t.Fatal(e)
		}
		if e := s.Claim(2*n-7, integer); e != api.OK {
			t.Fatal(e)
		}
		if e := s.Claim(n+5, text); e != api.ErrClash {
			t.Error(heads, e)
		}
	}
}

// deep: a head of that many heads one in another, with one part innermost.
func deep(t *testing.T, a *arena.Arena, n, inner int) int {
	t.Helper()
	for range n {
		i, e := a.Head(api.Head{Kind: api.TRecord, Names: []string{"a"}, Kids: []int{inner}})
		if e != api.OK {
			t.Fatal(e)
		}
		inner = i
	}
	return inner
}

// P13.1, P13.2: heads one in another as deep as there is room for: claimed, and raised.
func TestDeepHeads(t *testing.T) {
	const n = 250000
	a, s := variables(t, 3, func(i int) int { return 2 - i })
	one, other := deep(t, a, n, 0), deep(t, a, n, 1)
	integer, _ := a.Head(api.Head{Kind: api.TInt})
	text, _ := a.Head(api.Head{Kind: api.TStr})
	for _, x := range []struct {
		claim
		want api.Errno
	}{{claim{one, other}, api.OK}, {claim{one, 2}, api.OK}, {claim{integer, 0}, api.OK}, {claim{1, text}, api.ErrClash}} {
		if e := s.Claim(x.below, x.above); e != x.want {
			t.Error(x, e)
		}
	}
	if l := a.Low(2); len(l) != 1 || a.Level(l[0]) != 0 {
		t.Error(l)
	}
	i, e := solve.Raise(a, other, 0, false)
	if e != api.OK || a.Level(i) != 0 {
		t.Error(i, e)
	}
	// There is no room for it a second time.
	if a.Len() < api.MaxArena-n {
		t.Fatal(a.Len())
	}
	was := a.Len()
	if i, e := solve.Raise(a, other, 0, false); i != 0 || e != api.ErrLimit || a.Len() != was {
		t.Error(i, e, a.Len()-was)
	}
	s = solve.New(a)
	if e := s.Claim(2, one); e != api.ErrLimit || a.Len() != was {
		t.Error(e, a.Len()-was)
	}
}

// P13.1, P13.2: heads that have one kid twice, again and again: each is raised once a way.
func TestKidsTwice(t *testing.T) {
	const n = 60
	for _, kind := range []int{api.TRecord, api.TFun} {
		a, s := variables(t, 2, func(i int) int { return 1 - i })
		h := api.Head{Kind: kind, Kids: []int{0, 0}}
		if kind == api.TRecord {
			h.Names = []string{"a", "b"}
		}
		for range n {
			i, _ := a.Head(h)
			h.Kids = []int{i, i}
		}
		ways := 1
		if kind == api.TFun {
			ways = 2
		}
		// Of the outermost there is but one way, and of the variable both.
		asks := 1 + (n-1)*ways + ways
		was := a.Len()
		if i, e := solve.Raise(a, n+1, 0, true); e != api.OK || a.Level(i) != 0 || a.Len() != was+asks {
			t.Error(kind, i, e, a.Len()-was)
		}
		was = a.Len()
		if e := s.Claim(n+1, 1); e != api.OK || a.Len() != was+asks {
			t.Error(kind, e, a.Len()-was)
		}
	}
}

// P13.1: where there is no room it is soon known, however much would be asked for: a deep head goes from level to level.
func TestSoonFull(t *testing.T) {
	const levels, depth = 2000, 1000
	a, s := variables(t, levels, func(i int) int { return levels - i })
	for i := 1; i < levels-1; i++ {
		s.Claim(i, i+1)
	}
	h := deep(t, a, depth, 0)
	for a.Len() < api.MaxArena-20*depth {
		a.Var(0)
	}
	was := a.Len()
	var ahead, behind runtime.MemStats
	runtime.ReadMemStats(&ahead)
	if e := s.Claim(h, 1); e != api.ErrLimit || a.Len() != was {
		t.Error(e, a.Len()-was)
	}
	runtime.ReadMemStats(&behind)
	if took := (behind.TotalAlloc - ahead.TotalAlloc) >> 20; took > 200 {
		t.Errorf("%d MB", took)
	}
}

// wide: a record of many names, kids by turns.
func wide(n int, kids ...int) api.Head {
	h := api.Head{Kind: api.TRecord}
	for i := range n {
		h.Names, h.Kids = append(h.Names, fmt.Sprintf("n%06d", i)), append(h.Kids, kids[i%len(kids)])
	}
	return h
}

// P13.1: heads of many names.
func TestWideHeads(t *testing.T) {
	const n = 100000
	a, s := variables(t, 3, func(i int) int { return i })
	one, _ := a.Head(wide(n, 0, 1))
	other, _ := a.Head(wide(n-1, 2, 2))
	integer, _ := a.Head(api.Head{Kind: api.TInt})
	text, _ := a.Head(api.Head{Kind: api.TStr})
	for _, x := range []struct {
		claim
		want api.Errno
	}{{claim{one, other}, api.OK}, {claim{integer, 1}, api.OK}, {claim{one, 0}, api.OK}, {claim{2, text}, api.ErrClash}} {
		if e := s.Claim(x.below, x.above); e != x.want {
			t.Error(x, e)
		}
	}
	if e := solve.New(a).Claim(other, one); e != api.ErrClash {
		t.Error(e)
	}
}

// ring: a graph of records one in another that goes round, each with names that stand in all, the first one with one more.
func ring(n int, first string, all ...string) api.Graph {
	g := api.Graph{L: make([]api.Head, n+1)}
	for i := range n {
		names := append([]string{"a"}, all...)
		if i == 0 {
			names = append(names, first)
		}
		h := api.Head{Kind: api.TRecord, Names: names, Kids: make([]int, len(names))}
		for k := range h.Kids {
			h.Kids[k] = n
		}
		h.Kids[0] = (i + 1) % n
		g.L[i] = h
	}
	g.L[n].Kind = api.TAny
	return g
}

// P13.1: two graphs of which each head meets each of the other one.
func TestGreatGraphs(t *testing.T) {
	a, _ := arena.New(api.MaxArena)
	one, _ := a.Graph(ring(1200, "c", "b"))
	other, _ := a.Graph(ring(1199, "b"))
	s := solve.New(a)
	if e := s.Claim(one, other); e != api.OK {
		t.Error(e)
	}
	if e := s.Claim(other, one); e != api.ErrClash {
		t.Error(e)
	}
}

// P13.1: variables of many levels, all of which hand on to one another: there is one part for each level, not for each row of levels.
func TestManyLevels(t *testing.T) {
	const levels = 40
	a, s := variables(t, levels, func(i int) int { return i })
	var heads []int
	for i := range levels {
		h, _ := a.Head(api.Head{Kind: api.TFun, Kids: []int{i, i}})
		heads = append(heads, h)
	}
	n := a.Len()
	for i := range levels {
		for j := range levels {
			if e := s.Claim(i, j); e != api.OK {
				t.Fatal(i, j, e)
			}
		}
		if e := s.Claim(heads[i], i); e != api.OK {
			t.Fatal(i, e)
		}
	}
	if most := n * levels * 2; a.Len()-n > most {
		t.Errorf("%d parts came in, more than %d", a.Len()-n, most)
	}
	integer, _ := a.Head(api.Head{Kind: api.TInt})
	if e := s.Claim(integer, levels/2); e != api.OK {
		t.Error(e)
	}
	if e := s.Claim(levels-1, heads[0]); e != api.ErrClash {
		t.Error(e)
	}
}
