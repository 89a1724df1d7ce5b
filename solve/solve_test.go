package solve_test

import (
	"slices"
	"strings"
	"testing"

	"azimuth/api"
	"azimuth/below"
	"azimuth/graph"
	"azimuth/parse"
	"azimuth/solve"
)

// P13.1: the chapter's example.
func TestExample(t *testing.T) {
	w := newWorld(t, 10)
	w.claim("int", "V", api.OK)
	w.claim("V", "str", api.ErrClash)
	i, j, clash := w.solver.Clash()
	if i != w.part("int") || j != w.part("str") || !clash {
		t.Error(i, j, clash)
	}
}

// P13.1, P13.2: what README.md tells of a solver.
func TestReadme(t *testing.T) {
	w := newWorld(t, 100)
	h, v := w.part("{a: W3}"), w.part("V0")
	w.claim("{a: W3}", "V0", api.OK)
	low, _ := w.At(w.Low(v)[0])
	x := low.Kids[0]
	if len(w.Low(v)) != 1 || low.Kind != api.TRecord || !w.IsVar(x) || w.Level(x) != 0 {
		t.Fatal(w.Low(v), low)
	}
	w.claim("int", "W3", api.OK)
	if l := w.Low(x); len(l) != 1 || l[0] != w.part("int") {
		t.Error(l)
	}
	r, e := solve.Raise(w.Arena, h, 1, true)
	like, _ := w.At(r)
	if e != api.OK || w.Level(r) != 1 || !slices.Contains(w.High(w.part("W3")), like.Kids[0]) {
		t.Error(r, e, like)
	}
	w.claim("W3", "str", api.ErrClash)
	if i, j, clash := w.solver.Clash(); i != w.part("int") || j != w.part("str") || !clash {
		t.Error(i, j, clash)
	}
}

// P13.1: New of no arena, of an empty one, of one with parts and bounds: no claims, and nothing is changed.
func TestNew(t *testing.T) {
	if solve.New(nil) != nil {
		t.Error("New of no arena")
	}
	empty := newWorld(t, 3)
	full := newWorld(t, 6)
	for _, text := range []string{"V2", "int", "V2 -> W1", "any"} {
		full.part(text)
	}
	v := full.part("V2")
	full.Bound(v, full.part("int"), false)
	full.Bound(v, full.part("W1"), true)
	for _, w := range []*world{empty, full} {
		was := toldOf(w.Arena)
		s := solve.New(w.Arena)
		i, j, clash := s.Clash()
		if s.Claims() != 0 || i != 0 || j != 0 || clash {
			t.Error(s.Claims(), i, j, clash)
		}
		if !equal(was, toldOf(w.Arena)) {
			t.Error("New changes the arena")
		}
	}
	if e := empty.solver.Claim(0, 0); e != api.ErrArg {
		t.Error(e)
	}
	// What comes later are parts for it.
	empty.claim("V", "int", api.OK)
	empty.claim("str", "V", api.ErrClash)
}

// bases are closed types of each kind, and some of several heads.
func bases() []string {
	return []string{
		"int", "bool", "str", "float", "dyn", "any", "none", "int -> str", "any -> str", "none -> any", "dyn -> int",
		"{}", "{a: int}", "{a: any}", "{a: none}", "{a: int, b: int}", "{b: str}", "{a: {b: int}}", "{a: {}}",
		"[]", "[..]", "[#a int]", "[#a any]", "[#a none]", "[#a int | #b str]", "[#b any]", "[#a int | ..]", "[#a any | ..]", "[#a none | ..]",
		"[#b any | ..]", "[#a int | #b any | ..]", "[#a int | #b str | ..]", "[#a any | #b any | #c any | ..]", "[#a [#b int] | ..]", "[#a [#b any | ..] | ..]",
		"(int -> str) -> int", "{a: int -> any} -> any", "[#a {a: int} | #b (dyn -> dyn)]",
		"type A = {a: A}; A", "type A = {a: A, b: int}; A", "type A = A -> A; A", "type A = [#a A | #b int]; A", "type A = [#a A | ..]; A",
	}
}

// graphOf: the graph of a closed type's text.
func graphOf(t *testing.T, text string) api.Graph {
	t.Helper()
	at := strings.LastIndex(text, ";") + 1
	tree, d := parse.Text([]byte(text[:at] + "(x : " + text[at:] + ")"))
	if d.Error != api.OK {
		t.Fatal(text, d)
	}
	g, e := graph.Of(tree, tree.Nodes[len(tree.Nodes)-1].Types[0])
	if e != api.OK {
		t.Fatal(text, e)
	}
	return g
}

// P13.1: each closed type below each, as heads by themselves and as a graph's: just what chapter 9 has below may be, and nothing comes in the arena.
func TestClosed(t *testing.T) {
	for _, one := range bases() {
		for _, other := range bases() {
			want := api.ErrClash
			if below.Below(graphOf(t, one), graphOf(t, other)) {
				want = api.OK
			}
			w := newWorld(t, 40)
			w.claim(one, other, want)
			w = newWorld(t, 40)
			i, j := w.ok(w.Graph(graphOf(t, one))), w.ok(w.Graph(graphOf(t, other)))
			n := w.Len()
			if e := w.claimed(i, j); e != want {
				t.Errorf("%s, %s: %d", one, other, e)
			}
			if want == api.OK && w.Len() != n {
				t.Errorf("%s, %s: parts came in", one, other)
			}
		}
	}
}

// P13.1: each closed type below a variable, and that below each: it is as if the one were below the other one; also where the variable is a kid.
func TestThroughVariable(t *testing.T) {
	for _, place := range []string{"V", "{a: V}", "int -> V", "[#a V]", "[#a V | ..]", "{a: str -> [#b V | ..], b: int}"} {
		for _, one := range bases() {
			for _, other := range bases() {
				if strings.HasPrefix(one, "type") || strings.HasPrefix(other, "type") {
					continue
				}
				in := func(text string) string { return strings.Replace(place, "V", "("+text+")", 1) }
				want := api.ErrClash
				if below.Below(graphOf(t, one), graphOf(t, other)) {
					want = api.OK
				}
				w := newWorld(t, 40)
				w.claim(in(one), place, api.OK)
				w.claim(place, in(other), want)
				// And the other way round, in what a function takes.
				w = newWorld(t, 40)
				w.claim(place+" -> int", in(one)+" -> int", api.OK)
				w.claim(in(other)+" -> int", place+" -> int", want)
			}
		}
	}
}

// P13.1: a part is below itself, of any kind, and nothing follows but that.
func TestItself(t *testing.T) {
	for _, text := range append(bases(), "V", "V3", "V -> W", "{a: V, b: W2}", "[#a V | ..]", "[#a V]", "V -> V") {
		w := newWorld(t, 40)
		for range 3 {
			w.claim(text, text, api.OK)
		}
	}
	w := newWorld(t, 10)
	v := w.part("V")
	// Bounds that don't go together are nothing to a claim that they don't follow from.
	w.Bound(v, w.part("int"), false)
	w.Bound(v, w.part("str"), true)
	for _, text := range []string{"V", "int", "str"} {
		if e := w.solver.Claim(w.part(text), w.part(text)); e != api.OK {
			t.Error(text, e)
		}
	}
}

// P13.1: a claim that is made twice is one more each time, and is noted once.
func TestTwice(t *testing.T) {
	for _, x := range [][2]string{{"V", "W"}, {"int", "V"}, {"V", "int"}, {"{a: V}", "{a: W}"}, {"V", "V"}, {"V1", "W"}, {"V", "W1"}, {"{a: V}", "W1"}, {"[..]", "[#a V | ..]"}} {
		w := newWorld(t, 20)
		w.claim(x[0], x[1], api.OK)
		was := toldOf(w.Arena)
		for range 4 {
			w.claim(x[0], x[1], api.OK)
		}
		if w.solver.Claims() != 5 || !equal(was, toldOf(w.Arena)) {
			t.Errorf("%v: %d, %v", x, w.solver.Claims(), toldOf(w.Arena))
		}
	}
}

// P13.1: what is claimed of variables is noted, in the order of the claims; two variables of a level have each other.
func TestNoted(t *testing.T) {
	w := newWorld(t, 20)
	for _, x := range [][2]string{{"int", "V"}, {"none", "V"}, {"V", "any"}, {"V", "W"}, {"V", "int"}, {"U", "V"}, {"dyn -> int", "U1"}, {"V", "U"}} {
		w.claim(x[0], x[1], api.OK)
	}
	at := func(l []int, texts ...string) {
		t.Helper()
		from := 0
		for _, text := range texts {
			for from < len(l) && l[from] != w.part(text) {
				from++
			}
			if from == len(l) {
				t.Errorf("%v aren't noted in this order: %v, parts %v", texts, l, w.parts)
			}
		}
	}
	at(w.Low(w.part("V")), "int", "none", "U")
	at(w.High(w.part("V")), "any", "W", "int", "U")
	at(w.Low(w.part("W")), "V")
	at(w.High(w.part("U")), "V")
	at(w.Low(w.part("U")), "V")
	at(w.Low(w.part("U1")), "dyn -> int")
}

// P13.1: a claim that is noted already, by another claim from which it followed, is noted as any other one when it is made.
func TestNotedBehindFollowing(t *testing.T) {
	w := newWorld(t, 20)
	w.claim("{a: V, b: int} -> W", "{a: W, b: U} -> V", api.OK)
	w.claim("W", "V", api.OK)
	w.claim("U", "int", api.OK)
	w.claim("V", "W", api.OK)
	w.claim("U", "V", api.OK)
	w.claim("W", "int", api.OK)
	w.claim("str", "U", api.ErrClash)
}

// P13.1: bounds that the arena had ahead of the claims, and such as come between, count where they are met.
func TestBoundsAhead(t *testing.T) {
	for _, x := range []struct {
		above bool
		claim [2]string
		want  api.Errno
	}{
		{false, [2]string{"V", "str"}, api.ErrClash},
		{false, [2]string{"V", "any"}, api.OK},
		{false, [2]string{"V", "U"}, api.OK},
		{false, [2]string{"str", "V"}, api.OK},
		{true, [2]string{"str", "V"}, api.ErrClash},
		{true, [2]string{"none", "V"}, api.OK},
		{true, [2]string{"U", "V"}, api.OK},
		{true, [2]string{"V", "str"}, api.OK},
		{true, [2]string{"{a: str}", "{a: V}"}, api.ErrClash},
		{false, [2]string{"{a: V}", "{a: str}"}, api.ErrClash},
		{true, [2]string{"V -> any", "str -> any"}, api.ErrClash},
	} {
		for _, late := range []bool{true, false} {
			w := newWorld(t, 20)
			v, i := w.part("V"), w.part("int")
			bind := func() { w.Bound(v, i, x.above) }
			if !late {
				bind()
			}
			s := solve.New(w.Arena)
			if e := s.Claim(w.part("none"), w.part("W")); e != api.OK {
				t.Error(e)
			}
			if late {
				bind()
			}
			if e := s.Claim(w.part(x.claim[0]), w.part(x.claim[1])); e != x.want {
				t.Errorf("%v, late %v: %d", x, late, e)
			}
		}
	}
}

// P13.1: another solver of the same arena knows what the first one noted.
func TestAnotherSolver(t *testing.T) {
	w := newWorld(t, 40)
	for _, x := range [][2]string{{"int", "A"}, {"A", "B"}, {"B", "C"}, {"{a: C}", "{a: D}"}, {"D", "E"}} {
		w.claim(x[0], x[1], api.OK)
	}
	for _, name := range []string{"A", "B", "C", "D", "E"} {
		s := solve.New(w.Arena)
		if n := s.Claims(); n != 0 {
			t.Error(n)
		}
		if e := s.Claim(w.part(name), w.part("str")); e != api.ErrClash {
			t.Errorf("%s below str: %d", name, e)
		}
		if e := w.solver.Claim(w.part(name), w.part("int")); e != api.OK {
			t.Errorf("%s below int: %d", name, e)
		}
	}
}

// P13.1: two solvers of two arenas know nothing of one another.
func TestTwoSolvers(t *testing.T) {
	v, w := newWorld(t, 20), newWorld(t, 20)
	v.claim("int", "V", api.OK)
	w.claim("V", "str", api.OK)
	w.claim("int", "V", api.ErrClash)
	v.claim("V", "any", api.OK)
	v.claim("V", "str", api.ErrClash)
}

// P13.1: Claims and Clash, ahead of a claim, behind some, behind such as are refused.
func TestClaimsAndClash(t *testing.T) {
	w := newWorld(t, 20)
	look := func(claims int, clash bool) {
		t.Helper()
		_, _, is := w.solver.Clash()
		if n := w.solver.Claims(); n != claims || is != clash {
			t.Errorf("%d, %v; it is %d, %v", n, is, claims, clash)
		}
	}
	look(0, false)
	w.claim("int", "V", api.OK)
	look(1, false)
	if e := w.solver.Claim(0, 10); e != api.ErrArg {
		t.Error(e)
	}
	look(1, false)
	w.claim("V", "any", api.OK)
	w.claim("int", "int", api.OK)
	look(3, false)
	w.claim("V", "{}", api.ErrClash)
	look(3, true)
	for _, x := range [][2]string{{"int", "V"}, {"int", "int"}, {"none", "any"}, {"V", "{}"}, {"W", "U"}, {"str", "bool"}} {
		i, j, _ := w.solver.Clash()
		w.claim(x[0], x[1], api.ErrClash)
		look(3, true)
		if k, l, _ := w.solver.Clash(); k != i || l != j {
			t.Errorf("another clash is told: %d, %d", k, l)
		}
	}
	if i, j, _ := w.solver.Clash(); i != w.part("int") || j != w.part("{}") {
		t.Error(i, j)
	}
	if e := w.solver.Claim(-1, 0); e != api.ErrArg {
		t.Error(e)
	}
}
