package solve_test

import (
	"maps"
	"slices"
	"testing"

	"azimuth/api"
	"azimuth/arena"
	"azimuth/solve"
)

// raising looks whether a part is the one that another one, raised, should be, by the chapter's words: part by part, as long as nothing speaks against it.
type raising struct {
	t     *testing.T
	was   []told // ahead of it
	is    []told
	level int
	met   map[raisedWay]bool
	like  map[int]int // of new parts of which they are
}

type raisedWay struct {
	of, by int
	up     bool
}

// isSo tries whether a part is the one raised; what was taken for so on the way to a no counts for nothing.
func (r *raising) isSo(of, by int, up bool) bool {
	met, like := maps.Clone(r.met), maps.Clone(r.like)
	so := r.tried(of, by, up)
	if !so {
		r.met, r.like = met, like
	}
	return so
}

func (r *raising) tried(of, by int, up bool) bool {
	if of >= len(r.was) {
		return of == by // a bound that came in with this same raising
	}
	if r.was[of].level <= r.level {
		return of == by
	}
	if r.met[raisedWay{of, by, up}] {
		return true
	}
	r.met[raisedWay{of, by, up}] = true
	if by < len(r.was) || r.is[by].level > r.level || r.is[by].isVar != r.was[of].isVar {
		return false
	}
	if like, known := r.like[by]; known && like != of {
		return false
	}
	r.like[by] = of
	if r.was[of].isVar {
		return r.is[by].level == r.level && r.bound(of, by, up)
	}
	return r.heads(r.was[of].head, r.is[by].head, up)
}

func (r *raising) heads(it, that api.Head, up bool) bool {
	if it.Kind != that.Kind || it.Open != that.Open || !slices.Equal(it.Names, that.Names) {
		return false
	}
	for k := range it.Kids {
		if !r.isSo(it.Kids[k], that.Kids[k], up != (it.Kind == api.TFun && k == 0)) {
			return false
		}
	}
	return true
}

// bound: what is below a variable is below that which was raised up, which is above it; and no more.
func (r *raising) bound(of, by int, up bool) bool {
	its, own, others, other := r.is[of].low, r.is[by].low, r.is[of].high, r.is[by].high
	if !up {
		its, own, others, other = others, other, its, own
	}
	if !slices.Contains(others, by) || len(other) > 0 {
		return false
	}
	// A new bound of the one, which it has by being raised the other way, may stand there, or not.
	old := r.was[of].low
	if !up {
		old = r.was[of].high
	}
	for n, i := range its {
		if !slices.ContainsFunc(own, func(j int) bool { return r.isSo(i, j, up) }) && n < len(old) {
			return false
		}
	}
	return !slices.ContainsFunc(own, func(j int) bool {
		return !slices.ContainsFunc(its, func(i int) bool { return r.isSo(i, j, up) })
	})
}

// raise raises a part and looks at all that is told behind it.
func raise(t *testing.T, a *arena.Arena, i, level int, up bool) int {
	t.Helper()
	was := toldOf(a)
	by, e := solve.Raise(a, i, level, up)
	if e != api.OK {
		t.Fatalf("Raise of %d to %d: %d", i, level, e)
	}
	is := toldOf(a)
	if wrong := grown(was, is); wrong != "" {
		t.Fatalf("Raise of %d to %d: %s", i, level, wrong)
	}
	if was[i].level <= level && (by != i || !equal(was, is)) {
		t.Fatalf("Raise of %d, of level %d, to %d: %d, of %d parts, not %d", i, was[i].level, level, by, len(is), len(was))
	}
	r := &raising{t, was, is, level, map[raisedWay]bool{}, map[int]int{}}
	if !r.isSo(i, by, up) {
		t.Fatalf("Raise of %d to %d, up %v: %d isn't as it should be: %v, then %v", i, level, up, by, was, is)
	}
	for k := len(was); k < len(is); k++ {
		if is[k].level > level {
			t.Fatalf("Raise of %d to %d: %d, of level %d", i, level, k, is[k].level)
		}
	}
	for k, x := range is[:len(was)] {
		for _, bound := range append(x.low[len(was[k].low):], x.high[len(was[k].high):]...) {
			if is[bound].level > x.level {
				t.Fatalf("Raise of %d to %d: %d, of level %d, is a bound of %d, of level %d", i, level, bound, is[bound].level, k, x.level)
			}
		}
	}
	return by
}

// P13.2: parts whose level isn't above that are themselves, others aren't: variables and heads, up and down, also where there is no room for more.
func TestRaiseItself(t *testing.T) {
	w := newWorld(t, 17)
	for _, x := range []struct {
		text  string
		level int
	}{{"V0", 0}, {"V1", 1}, {"V7", 7}, {"int", 0}, {"{}", 0}, {"int -> any", 0}, {"V1 -> V7", 7}, {"{a: V0, b: V1}", 1}, {"[#a V7 | ..]", 7}} {
		i := w.part(x.text)
		if w.Level(i) != x.level {
			t.Fatal(x, w.Level(i))
		}
		for _, level := range []int{x.level, x.level + 1, x.level + 100, most} {
			for _, up := range []bool{true, false} {
				if by := raise(t, w.Arena, i, level, up); by != i {
					t.Errorf("%s to %d: %d", x.text, level, by)
				}
			}
		}
	}
	for w.Len() < 17 {
		w.Var(3)
	}
	for i := range 17 {
		for _, up := range []bool{true, false} {
			if by := raise(t, w.Arena, i, 7, up); by != i {
				t.Error(i, by)
			}
			if by, e := solve.Raise(w.Arena, i, 0, up); w.Level(i) > 0 && (by != 0 || e != api.ErrLimit) {
				t.Error(i, by, e)
			}
		}
	}
}

// P13.2: a variable, with bounds of all sorts, to levels below its own.
func TestRaiseVariable(t *testing.T) {
	for level := range 4 {
		for _, up := range []bool{true, false} {
			w := newWorld(t, 200)
			v := w.part("V4")
			for _, text := range []string{"int", "W0", "X3", "{a: W0, b: Y4} -> X3", "Y4", "{a: V4}", "V4", "[#a Z2 | #b X3 | ..]"} {
				w.Bound(v, w.part(text), false)
				w.Bound(v, w.part(text+" -> str"), true)
				w.Bound(w.part("Y4"), w.part(text+" -> int"), !up)
			}
			n := w.Len()
			by := raise(t, w.Arena, v, level, up)
			if by < n || !w.IsVar(by) || w.Level(by) != level {
				t.Errorf("to %d: %d, level %d", level, by, w.Level(by))
			}
			own, others := w.Low(by), w.High(v)
			if !up {
				own, others = w.High(by), w.Low(v)
			}
			if len(own) < 8 || others[len(others)-1] != by {
				t.Errorf("to %d, up %v: bounds %v, and %v", level, up, own, others)
			}
		}
	}
}

// P13.2: heads of each kind, with variables of several levels in them; what a function takes is raised the other way.
func TestRaiseHeads(t *testing.T) {
	for _, text := range []string{
		"{a: V1}", "{a: V1, b: W2, c: X3}", "{a: V1, b: V1}", "V1 -> W2", "V2 -> V2", "(V2 -> W1) -> X3", "V1 -> int -> W3", "[#a V1 | #b W2]", "[#a V3 | ..]",
		"[#a {b: V2 -> W2} | ..]", "{a: {b: {c: V3}}, d: V3 -> int}", "{a: int, b: V1}", "(V3 -> V3) -> V3 -> V3",
	} {
		for level := range 4 {
			for _, up := range []bool{true, false} {
				w := newWorld(t, 200)
				i := w.part(text)
				w.Bound(w.part("V1"), w.part("int"), false)
				w.Bound(w.part("V2"), w.part("V1"), false)
				w.Bound(w.part("V3"), w.part("{z: V3, y: W2}"), true)
				w.Bound(w.part("W2"), w.part("V2"), true)
				raise(t, w.Arena, i, level, up)
			}
		}
	}
}

// P13.2: the way in which each variable of a function is raised, told in full.
func TestRaiseFunction(t *testing.T) {
	for _, up := range []bool{true, false} {
		w := newWorld(t, 20)
		i := w.part("V3 -> W3")
		v, x := w.part("V3"), w.part("W3")
		for _, k := range []int{v, x} {
			w.Bound(k, w.part("int"), false)
			w.Bound(k, w.part("any"), true)
		}
		n := w.Len()
		by := raise(t, w.Arena, i, 1, up)
		h, _ := w.At(by)
		if w.Len() != n+3 || h.Kind != api.TFun || len(h.Kids) != 2 {
			t.Fatal(w.Len(), h)
		}
		takes, tells := h.Kids[0], h.Kids[1]
		if !up {
			takes, tells, v, x = tells, takes, x, v
		}
		// What is raised down is below the one, what is raised up is above it.
		integer, top := w.part("int"), w.part("any")
		for _, row := range [][2][]int{
			{w.Low(takes), nil}, {w.High(takes), {top}}, {w.Low(v), {integer, takes}}, {w.High(v), {top}},
			{w.Low(tells), {integer}}, {w.High(tells), nil}, {w.Low(x), {integer}}, {w.High(x), {top, tells}},
		} {
			if !slices.Equal(row[0], row[1]) {
				t.Errorf("up %v: %v; it is %v", up, row[0], row[1])
			}
		}
	}
}

// P13.2: a variable that is raised both ways at once: what is raised down is below what is raised up.
func TestRaiseBothWays(t *testing.T) {
	for _, text := range []string{"V3 -> V3", "(V3 -> int) -> V3 -> int", "{a: V3 -> int, b: V3}", "{a: V3, b: V3 -> int}", "(V3 -> V3) -> int"} {
		for _, up := range []bool{true, false} {
			w := newWorld(t, 100)
			i := w.part(text)
			by := raise(t, w.Arena, i, 1, up)
			downs, ups := w.Low(w.part("V3")), w.High(w.part("V3"))
			if len(downs) != 1 || len(ups) != 1 || w.Level(by) != 1 {
				t.Fatal(text, downs, ups)
			}
			s := solve.New(w.Arena)
			if e := s.Claim(w.part("int"), downs[0]); e != api.OK {
				t.Error(text, e)
			}
			if e := s.Claim(ups[0], w.part("str")); e != api.ErrClash {
				t.Error(text, e)
			}
		}
	}
}

// P13.2: parts that go round by bounds: through one variable, through two, through heads.
func TestRaiseRound(t *testing.T) {
	for level := range 3 {
		for _, up := range []bool{true, false} {
			for _, bounds := range [][][2]string{
				{{"V2", "V2"}},
				{{"V2", "{a: V2}"}},
				{{"V2", "V2 -> V2"}},
				{{"V2", "W2"}, {"W2", "V2"}},
				{{"V2", "{a: W2}"}, {"W2", "V2 -> V2"}},
				{{"V2", "W1"}, {"W1", "V2"}},
				{{"V2", "{a: W1, b: V2}"}, {"W1", "{a: V2}"}},
				{{"V2", "X3"}, {"X3", "V2 -> W1"}, {"W1", "X3"}},
				{{"V2", "type A = {a: A}; A"}, {"V2", "[#a V2 | #b W2 | ..]"}, {"W2", "(V2 -> W2) -> int"}},
			} {
				w := newWorld(t, 200)
				for _, x := range bounds {
					w.Bound(w.part(x[0]), w.part(x[1]), true)
					w.Bound(w.part(x[0]), w.part(x[1]), false)
				}
				for _, x := range bounds {
					raise(t, w.Arena, w.part(x[0]), level, up)
					raise(t, w.Arena, w.part(x[1]), level, !up)
				}
			}
		}
	}
}

// P13.2: each is made anew, and knows of those that were made before.
func TestRaiseAgain(t *testing.T) {
	w := newWorld(t, 100)
	i := w.part("{a: V3}")
	w.claim("int", "V3", api.OK)
	one, other := raise(t, w.Arena, i, 1, true), raise(t, w.Arena, i, 1, true)
	down := raise(t, w.Arena, i, 1, false)
	if one == other || one == i || down == one {
		t.Error(one, other, down)
	}
	// What was raised is raised again.
	lower := raise(t, w.Arena, one, 0, true)
	if lower == one || w.Level(lower) != 0 {
		t.Error(lower)
	}
	for _, k := range []int{one, other, lower} {
		if e := solve.New(w.Arena).Claim(k, w.part("{a: str}")); e != api.ErrClash {
			t.Error(k, e)
		}
		if e := solve.New(w.Arena).Claim(k, w.part("{a: int}")); e != api.OK {
			t.Error(k, e)
		}
	}
}

// roomFor: a part told by a text, its variable V2 bound by a head of itself on one side, and room for so many parts more.
func roomFor(t *testing.T, text string, above bool, room int) (*world, int) {
	t.Helper()
	fill := func(w *world) int {
		i := w.part(text)
		w.Bound(w.part("V2"), w.part("{z: V2}"), above)
		return i
	}
	w := newWorld(t, 100)
	fill(w)
	w = newWorld(t, w.Len()+room)
	return w, fill(w)
}

// P13.2, R3: room for just as much as is asked for, and for less: then the arena is as it was.
func TestRaiseRoom(t *testing.T) {
	for text, asks := range map[string]int{
		"V2": 2, "{a: V2}": 3, "{a: V2, b: W2}": 4, "V2 -> V2": 4, "{a: V2} -> {a: V2}": 6, "{a: V2, b: W1, c: {}}": 3, "{a: {b: V2}, c: {b: V2}}": 5, "{b: V2 -> int}": 3,
	} {
		for _, up := range []bool{true, false} {
			for room := range asks + 1 {
				w, i := roomFor(t, text, !up, room)
				if room == asks {
					raise(t, w.Arena, i, 1, up)
					continue
				}
				was := roomyOf(w.Arena)
				if by, e := solve.Raise(w.Arena, i, 1, up); by != 0 || e != api.ErrLimit {
					t.Errorf("%s, up %v, room for %d of %d: %d, %d", text, up, room, asks, by, e)
				}
				was.asWas(t, w.Arena, text, up, room)
				fill(t, w.Arena, room, text, up, room)
			}
		}
	}
}
