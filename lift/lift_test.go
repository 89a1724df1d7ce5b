package lift_test

import (
	"slices"
	"testing"

	"azimuth/api"
	"azimuth/lift"
)

// P14.1: the chapter's example: a head of a variable of level 0, above 0, is itself.
func TestExample(t *testing.T) {
	w := newWorld(t, 3)
	h := w.part("V0 -> V0")
	if k, e := lift.Fresh(w.Arena, h, 0, 3); k != h || e != api.OK || w.Len() != 2 {
		t.Error(k, e, w.Len())
	}
}

// P14.1: what README.md tells of a part's fresh one.
func TestReadme(t *testing.T) {
	w := newWorld(t, 100)
	v, x, i, h := w.part("V2"), w.part("W0"), w.part("int"), w.part("V2 -> W0")
	w.bind("V2 > int")
	k, _ := fresh(t, w.Arena, h, 1, 5)
	like, _ := w.At(k)
	if k == h || like.Kids[1] != x || w.Level(like.Kids[0]) != 5 || !slices.Equal(w.Low(like.Kids[0]), []int{i}) {
		t.Error(k, like)
	}
	if l := lift.Reach(w.Arena, h, 1); !slices.Equal(l, []int{v, x, i, h}) || lift.Free(w.Arena, h, 1) != 1 {
		t.Error(l)
	}
}

// P14.1: a variable by itself, of each level, above each, to each: just where its level is above that it is another one.
func TestVariable(t *testing.T) {
	levels := []int{0, 1, 2, 3, 1 << 40, most - 1, most}
	for _, own := range levels {
		for _, above := range levels {
			for _, level := range levels {
				w := newWorld(t, 3)
				v := w.ok(w.Var(own))
				k, _ := fresh(t, w.Arena, v, above, level)
				if own > above && (k != 1 || w.Len() != 2 || !w.IsVar(k) || w.Level(k) != level) || own <= above && (k != v || w.Len() != 1) {
					t.Errorf("of level %d, above %d, to %d: %d, of level %d", own, above, level, k, w.Level(k))
				}
			}
		}
	}
}

// P14.1: a head of each kind with a variable in it, of each level, above each, to each.
func TestHead(t *testing.T) {
	for _, text := range []string{
		"V2 -> int", "int -> V2", "V2 -> V2", "{a: V2}", "{a: int, b: V2, c: str}", "[#a V2]", "[#a V2 | ..]", "[#a int | #of V2 | #z {}]", "(V2 -> int) -> {b: V2}", "[#a [#b V2 | ..] | ..]",
	} {
		for above := range 4 {
			for level := range 5 {
				w := newWorld(t, 40)
				h := w.part(text)
				if w.Level(h) != 2 {
					t.Fatal(text, w.Level(h))
				}
				k, of := fresh(t, w.Arena, h, above, level)
				if (k == h) != (above >= 2) || len(of) == 0 != (above >= 2) || k != h && w.Level(k) != level {
					t.Errorf("%s above %d, to %d: %d, of level %d", text, above, level, k, w.Level(k))
				}
			}
		}
	}
}

// P14.1: closed types are themselves: heads that are put one by one, and graphs, also such as go round; nothing comes in.
func TestClosed(t *testing.T) {
	for _, text := range []string{
		"int", "any", "none", "dyn", "{}", "[]", "[..]", "int -> str", "{a: int, b: {c: bool}}", "[#a int | ..]", "type A = {a: A}; A", "type A = A -> A; A", "type A = [#a A | #b int | ..]; A -> A",
	} {
		w := newWorld(t, 20)
		i := w.part(text)
		n := w.Len()
		for above := range 2 {
			if k, _ := fresh(t, w.Arena, i, above, 7); k != i || w.Len() != n {
				t.Errorf("%s: %d for %d", text, k, i)
			}
		}
	}
}

// P14.1: a head with kids of several levels: those of a level above are new, others aren't.
func TestKidsOfLevels(t *testing.T) {
	for above := range 5 {
		w := newWorld(t, 40)
		h := w.part("{a: A1, b: B2, c: C3, d: D0, e: {f: A1, g: B2}, h: C3 -> D0, i: int}")
		was, _ := w.At(h)
		k, of := fresh(t, w.Arena, h, above, 1)
		is, _ := w.At(k)
		for n, kid := range was.Kids {
			if (is.Kids[n] == kid) != (w.Level(kid) <= above) {
				t.Errorf("above %d: kid %d, of level %d: %d for %d", above, n, w.Level(kid), is.Kids[n], kid)
			}
		}
		for name, level := range map[string]int{"A1": 1, "B2": 2, "C3": 3} {
			if _, isNew := of[w.part(name)]; isNew != (level > above) {
				t.Errorf("above %d: %s is new: %v", above, name, isNew)
			}
		}
		if len(of) != max(3-above, 0) {
			t.Errorf("above %d: %v", above, of)
		}
	}
}

// P14.1: a variable that is met twice, by two kids and by two ways, has one fresh one.
func TestMetTwice(t *testing.T) {
	for _, x := range []struct {
		text   string
		bounds []string
	}{
		{"V1 -> V1", nil},
		{"{a: V1, b: V1, c: V1}", nil},
		{"{a: V1, b: {a: V1}}", nil},
		{"(V1 -> int) -> V1", nil},
		{"{a: V1, b: W1}", []string{"W1 < V1"}},
		{"{a: V1, b: W1}", []string{"W1 > V1", "V1 > W1"}},
		{"{a: V1, b: W1}", []string{"W1 > V1 -> V1", "W1 < {z: V1}"}},
		{"{a: W1}", []string{"W1 > V1", "W1 < V1"}},
		{"{a: V1, b: W1}", []string{"V1 < U1", "W1 > U1"}},
	} {
		w := newWorld(t, 60)
		h := w.part(x.text)
		w.bind(x.bounds...)
		vars := lift.Free(w.Arena, h, 0)
		_, of := fresh(t, w.Arena, h, 0, 2)
		if len(of) != vars {
			t.Errorf("%s, %v: %v", x.text, x.bounds, of)
		}
	}
}

// P14.1: heads that share kids, which are heads themselves.
func TestSharedKids(t *testing.T) {
	w := newWorld(t, 60)
	v := w.part("V1")
	one, two := w.part("{a: V1}"), w.part("V1 -> W2")
	three := w.ok(w.Head(api.Head{Kind: api.TFun, Kids: []int{one, one}}))
	four := w.ok(w.Head(api.Head{Kind: api.TRecord, Names: []string{"a", "b", "c"}, Kids: []int{one, two, three}}))
	five := w.ok(w.Head(api.Head{Kind: api.TVariant, Names: []string{"a", "b"}, Kids: []int{four, three}, Open: true}))
	w.Bound(v, five, false)
	w.Bound(v, two, true)
	for _, i := range []int{v, one, two, three, four, five} {
		for above := range 3 {
			fresh(t, w.Arena, i, above, 1)
		}
	}
}

// P14.1: bounds are those of the old one, in their order, below and above: closed ones and variables of levels that aren't above themselves, others fresh.
func TestBounds(t *testing.T) {
	w := newWorld(t, 100)
	below := []string{"str", "A2", "B1", "{a: A2}", "V2", "int", "C3 -> B1", "B1 -> B1"}
	above := []string{"V2", "B1 -> B1", "A2", "any", "{a: A2}", "D0", "str"}
	for _, text := range below {
		w.bind("V2 > " + text)
	}
	for _, text := range above {
		w.bind("V2 < " + text)
	}
	k, of := fresh(t, w.Arena, w.part("V2"), 1, 4)
	told := func(l []int, texts []string) {
		t.Helper()
		if len(l) != len(texts) {
			t.Fatal(l, texts)
		}
		for n, text := range texts {
			switch i := w.part(text); {
			case w.IsVar(i) && w.Level(i) > 1:
				if l[n] != of[i] || l[n] == i {
					t.Errorf("%s: %d, of %v", text, l[n], of)
				}
			case w.Level(i) > 1:
				if l[n] <= i || w.IsVar(l[n]) {
					t.Errorf("%s: %d", text, l[n])
				}
			case l[n] != i:
				t.Errorf("%s: %d", text, l[n])
			}
		}
	}
	told(w.Low(k), below)
	told(w.High(k), above)
	if len(of) != 3 {
		t.Error(of)
	}
}

// P14.1: a variable whose level isn't above is met, and its bounds are nothing to the fresh one, whatever their levels.
func TestBoundsOfOthers(t *testing.T) {
	w := newWorld(t, 40)
	h := w.part("{a: V1, b: W3}")
	w.bind("V1 < int", "V1 > U3", "V1 < {c: U3}", "W3 < V1", "U3 > str")
	n := w.Len()
	k, of := fresh(t, w.Arena, h, 1, 2)
	v, x := w.part("V1"), w.part("W3")
	if is, _ := w.At(k); len(of) != 1 || w.Len() != n+2 || is.Kids[0] != v || is.Kids[1] != of[x] || !slices.Equal(w.High(of[x]), []int{v}) {
		t.Error(of, is)
	}
	if l := lift.Reach(w.Arena, h, 1); !slices.Equal(l, w.numbers("V1", "W3", "{a: V1, b: W3}")) {
		t.Error(l)
	}
	if l := lift.Reach(w.Arena, h, 0); !slices.Equal(l, w.numbers("V1", "W3", "U3", "int", "str", "{c: U3}", "{a: V1, b: W3}")) {
		t.Error(l)
	}
}

// rounds are parts that go round by bounds, through one variable and through several, with the first one to be asked.
func rounds() [][]string {
	return [][]string{
		{"V2 < V2"},
		{"V2 > V2"},
		{"V2 < {a: V2}"},
		{"V2 > V2 -> V2"},
		{"V2 < W2", "W2 > V2"},
		{"V2 < W2", "W2 < V2", "W2 > V2", "V2 > W2"},
		{"V2 < W1", "W1 > V2"},
		{"V2 < W3", "W3 < V2 -> W3", "W3 > {a: V2}"},
		{"V2 < {a: W1}", "W1 < {b: U3}", "U3 < {c: V2}"},
		{"V2 > {a: W2, b: U2}", "W2 < U2", "U2 < V2", "U2 > int", "V2 < W2"},
		{"V2 < W2", "W2 < U2", "U2 < X2", "X2 < V2"},
		{"V2 < W2", "W2 > V2", "W2 < str", "U2 < V2"},
		{"V2 < type A = {a: A}; A", "V2 > [#a V2 | #b W0 | ..]", "W0 < V2"},
	}
}

// P14.1: parts that go round, from each part, above each level, to several.
func TestRounds(t *testing.T) {
	for _, bounds := range rounds() {
		for above := range 4 {
			for _, level := range []int{0, 2, 9} {
				w := newWorld(t, 400)
				w.bind(bounds...)
				for i := range w.Len() {
					asked(t, w.Arena, i, above)
					fresh(t, w.Arena, i, above, level)
				}
			}
		}
	}
}

// P14.1: twice of one part: nothing that is new is shared; and of a fresh one.
func TestTwice(t *testing.T) {
	for _, bounds := range rounds() {
		w := newWorld(t, 400)
		w.bind(append(bounds, "Z2 < {z: V2}")...)
		v := w.part("V2")
		one, of := fresh(t, w.Arena, v, 1, 2)
		other, too := fresh(t, w.Arena, v, 1, 2)
		n := w.Len()
		third, from := fresh(t, w.Arena, one, 1, 3)
		if one == other || third == one || third < n || len(from) != len(of) || len(too) != len(of) {
			t.Error(bounds, one, other, third)
		}
		for i, k := range of {
			if k == too[i] || from[k] < n {
				t.Errorf("%v: of %d: %d and %d, then %d", bounds, i, k, too[i], from[k])
			}
		}
		// Of a level that isn't above they are themselves.
		if k, _ := fresh(t, w.Arena, third, 3, 1); k != third {
			t.Error(k, third)
		}
	}
}

// P14.1: Reach and Free, told in full: of variables, of heads, of one without kids, of parts that go round.
func TestReach(t *testing.T) {
	w := newWorld(t, 40)
	h := w.part("{a: V1, b: W2, c: int -> X0}")
	kid, _ := w.At(h)
	inner := kid.Kids[2]
	kids, _ := w.At(inner)
	w.bind("V1 < X0", "V1 > str", "W2 > {d: V1}", "W2 < U3", "U3 > W2", "U3 < bool -> V1", "X0 > float")
	v, x, u, y := w.part("V1"), w.part("W2"), w.part("U3"), w.part("X0")
	str, d, function, float, integer := w.part("str"), w.part("{d: V1}"), w.part("bool -> V1"), w.part("float"), kids.Kids[0]
	takes, _ := w.At(function)
	boolean := takes.Kids[0]
	for _, row := range []struct {
		i, above int
		want     []int
		free     int
	}{
		{v, 0, []int{v, y, str}, 1},
		{v, 1, []int{v}, 0},
		{v, 2, []int{v}, 0},
		{v, most, []int{v}, 0},
		{y, 0, []int{y}, 0},
		{y, -1, []int{y, float}, 1},
		{y, least, []int{y, float}, 1},
		{v, -1, []int{v, y, str, float}, 2},
		{x, 0, []int{x, d, v, y, str, u, function, boolean}, 3},
		{x, 1, []int{x, d, v, u, function, boolean}, 2},
		{x, 2, []int{x}, 0},
		{u, 0, []int{x, d, v, y, str, u, function, boolean}, 3},
		{u, 1, []int{x, d, v, u, function, boolean}, 2},
		{u, 2, []int{u, x, function, boolean, v}, 1},
		{u, 3, []int{u}, 0},
		{h, 0, []int{h, inner, integer, x, d, v, y, str, u, function, boolean}, 3},
		{h, 1, []int{h, inner, integer, x, d, v, y, u, function, boolean}, 2},
		{h, 2, []int{h, inner, integer, x, v, y}, 0},
		{h, -5, []int{h, inner, integer, x, d, v, y, str, float, u, function, boolean}, 4},
		{inner, 0, []int{inner, integer, y}, 0},
		{inner, 7, []int{inner, integer, y}, 0},
		{function, 0, []int{function, boolean, v, y, str}, 1},
		{integer, 0, []int{integer}, 0},
		{float, -1, []int{float}, 0},
		{str, most, []int{str}, 0},
	} {
		slices.Sort(row.want)
		if l := lift.Reach(w.Arena, row.i, row.above); !slices.Equal(l, row.want) {
			t.Errorf("Reach of %d above %d: %v; it is %v", row.i, row.above, l, row.want)
		}
		if n := lift.Free(w.Arena, row.i, row.above); n != row.free {
			t.Errorf("Free of %d above %d: %d; it is %d", row.i, row.above, n, row.free)
		}
	}
	for above := -2; above < 6; above++ {
		for i := range w.Len() {
			asked(t, w.Arena, i, above)
		}
	}
}

// P14.1: of a graph all heads are come to, also such as go round; none of them is open.
func TestReachOfGraphs(t *testing.T) {
	w := newWorld(t, 40)
	w.part("V1")
	g := w.part("type A = {a: A, b: B -> int}; type B = [#c A | ..]; A")
	n := w.Len()
	for _, above := range []int{-1, 0, 1, most} {
		l := lift.Reach(w.Arena, g, above)
		if len(l) != n-1 || l[0] != 1 || l[n-2] != n-1 || lift.Free(w.Arena, g, above) != 0 {
			t.Error(above, l)
		}
		for i := range n {
			asked(t, w.Arena, i, above)
		}
	}
}

// roomFor: a part of a text, with bounds, in an arena with room for so many parts more.
func roomFor(t *testing.T, text string, bounds []string, room int) (*world, int) {
	t.Helper()
	w := newWorld(t, 200)
	w.part(text)
	w.bind(bounds...)
	w = newWorld(t, w.Len()+room)
	i := w.part(text)
	w.bind(bounds...)
	return w, i
}

// P14.1, R3: with just as much room as is asked for a fresh one comes in, with every lesser amount nothing does.
func TestRoom(t *testing.T) {
	for _, x := range []struct {
		text   string
		bounds []string
		asks   int
	}{
		{"V1", nil, 0},
		{"int", nil, 0},
		{"V2", nil, 1},
		{"{a: V2}", nil, 2},
		{"{a: V1}", nil, 0},
		{"V2 -> V2", nil, 2},
		{"V2 -> W2", nil, 3},
		{"{a: V2, b: {c: V2, d: int}, e: W1, f: W1 -> int}", nil, 3},
		{"V2", []string{"V2 < W1", "V2 > int", "V2 < int -> W1"}, 1},
		{"V2", []string{"V2 < {a: V2}", "V2 > {b: V2}"}, 3},
		{"V2", []string{"V2 < W2", "W2 < U3", "U3 > {a: {b: {c: X2 -> W2}}}"}, 8},
		{"{a: V1, b: W2}", []string{"V1 < W2", "W2 < {c: int}"}, 2},
		{"[#a V2 | ..]", []string{"Z5 < V2", "V2 > [#a {} | ..]"}, 2},
	} {
		for room := range x.asks + 2 {
			w, i := roomFor(t, x.text, x.bounds, room)
			if room >= x.asks {
				fresh(t, w.Arena, i, 1, 3)
			} else {
				refused(t, w.Arena, i, 1, 3, api.ErrLimit)
			}
			left := room
			if room >= x.asks {
				left -= x.asks
			}
			if w.Room() != left {
				t.Errorf("%s, %v: room for %d of %d is left", x.text, x.bounds, w.Room(), room)
			}
			for range left {
				w.ok(w.Var(0))
			}
			// What isn't above is itself, also where there is no room.
			for k := range w.Len() {
				if k, e := lift.Fresh(w.Arena, k, 9, 0); e != api.OK || w.Room() != 0 {
					t.Error(k, e)
				}
				asked(t, w.Arena, k, 0)
			}
		}
	}
}
