package arena_test

import (
	"fmt"
	"testing"

	"azimuth/api"
	"azimuth/graph"
)

// ahead: an arena with parts ahead of a graph: so many, variables and heads by turns.
func ahead(t *testing.T, most, n int) *two {
	t.Helper()
	x := pair(t, most)
	for i := range n {
		if i%2 == 0 {
			x.Var(i + 1)
		} else {
			x.Head(api.Head{Kind: api.TFun, Kids: []int{i - 1, i - 1}})
		}
	}
	return x
}

// P12.1: graphs whose heads are told, in an empty arena: their normal graph's heads in order.
func TestGraphs(t *testing.T) {
	for _, one := range []struct {
		what  string
		g     api.Graph
		heads []string
	}{
		{"one head", made(0, "i"), []string{"i"}},
		{"one of each kind", made(0, "*"), []string{"*"}},
		{"no names", made(0, "]"), []string{"]"}},
		{"a function", made(0, "> 1 2", "i", "b"), []string{"> 1 2", "i", "b"}},
		{"a function of one type", made(0, "> 1 2", "i", "i"), []string{"> 1 1", "i"}},
		{"a function of itself", made(0, "> 0 0"), []string{"> 0 0"}},
		{"a round", made(0, "> 1 0", "i"), []string{"> 1 0", "i"}},
		{"a round of several", made(0, "> 1 2", "i", "> 1 0"), []string{"> 1 0", "i"}},
		{"a round of several that are unlike", made(0, "> 1 2", "i", "> 3 0", "b"), []string{"> 1 2", "i", "> 3 0", "b"}},
		{"another order", made(2, "b", "i", "> 1 0"), []string{"> 1 2", "i", "b"}},
		{"another root", made(1, "> 0 1", "{ a:0 b:1"), []string{"{ a:1 b:0", "> 1 0"}},
		{"heads beside", made(0, "i", "b", "> 0 1"), []string{"i"}},
		{"heads ahead", made(3, "b", "> 3 0", "{ a:0", "s"), []string{"s"}},
		{"heads beside and twice", made(2, "i", "b", "{ a:4 b:0 c:4", "> 1 1", "i"), []string{"{ a:1 b:1 c:1", "i"}},
		{"heads numbered level by level", made(0, "> 1 2", "> 3 4", "> 5 6", "i", "b", "s", "f"), []string{"> 1 2", "> 3 4", "> 5 6", "i", "b", "s", "f"}},
		{"a record", made(0, "{ a:2 b:1 c:2", "s", "{ a:2 b:0 c:0"), []string{"{ a:1 b:2 c:1", "{ a:1 b:0 c:0", "s"}},
		{"variants", made(0, "[ a:1 in:2 let:2", "] a:0", "] a:2"), []string{"[ a:1 in:2 let:2", "] a:0", "] a:2"}},
	} {
		x := pair(t, len(one.heads))
		if i := x.Graph(one.g); i != 0 || x.Len() != len(one.heads) {
			t.Errorf("%s: %d of %d", one.what, i, x.Len())
		}
		for i, text := range one.heads {
			if h, ok := x.At(i); !ok || !equalHeads(h, headMade(text)) || x.Level(i) != 0 || x.IsVar(i) {
				t.Errorf("%s: head %d: %v, %v, level %d; it is %s", one.what, i, h, ok, x.Level(i), text)
			}
		}
		x.asAnew(one.what)
		// Behind parts that are there, with as much room as it wants.
		for n := 1; n < 8; n++ {
			x := ahead(t, n+len(one.heads), n)
			if i := x.Graph(one.g); i != n {
				t.Errorf("%s, behind %d: %d", one.what, n, i)
			}
			x.asAnew(fmt.Sprintf("%s, behind %d", one.what, n))
		}
	}
}

// P12.1: a graph wants room for all heads of its normal graph: with room for one less none goes in.
func TestGraphWithoutRoom(t *testing.T) {
	for _, g := range []api.Graph{
		made(0, "i"),
		made(0, "> 1 1", "i"),
		made(0, "> 1 2", "i", "i"),
		made(3, "b", "> 3 0", "{ a:0", "{ a:0 b:1"),
		made(0, "> 1 2", "> 3 4", "> 5 6", "i", "b", "s", "f"),
		made(0, "i", "b", "s", "f"),
	} {
		wants := len(normalAnew(g))
		for n := range 5 {
			for room := range wants + 2 {
				if n+room == 0 {
					continue
				}
				x := ahead(t, n+room, n)
				i, e := x.Arena.Graph(g)
				if room < wants && (i != 0 || e != api.ErrLimit) || room >= wants && (i != n || e != api.OK) {
					t.Errorf("%v, which wants %d, behind %d with room for %d: %d, %d", g, wants, n, room, i, e)
				}
				x.words.Graph(g)
				x.asAnew("a graph, perhaps")
				if room >= wants {
					continue
				}
				// What doesn't go in takes no room.
				for range room {
					x.Var(0)
				}
				x.Var(0)
				x.asAnew("full")
			}
		}
	}
}

// P12.1: a graph that may not be is refused, also where there is no room; then nothing goes in.
func TestGraphsThatMayNotBe(t *testing.T) {
	wrong := []api.Graph{
		{}, {L: []api.Head{}}, made(1), made(-1, "i"), made(1, "i"), made(least, "i"), made(most, "i"),
		made(0, "?"), made(0, "i", "?"), made(1, "?", "i"), made(0, "> 0"), made(0, "> 0 0 0"), made(0, "> 0 1"), made(0, "> -1 0"), made(0, "i 0"),
		made(0, "{ b:0 a:0"), made(0, "{ a:0 a:0"), made(0, "{ let:0"), made(0, "{ A:0"), made(0, "{ a:1"), made(0, "[ :0"), made(0, "i", "] b:0 a:1"), made(0, "i", "> 1 2"),
		{L: []api.Head{{Kind: api.TAlias}}}, {L: []api.Head{{Kind: api.TInt, Open: true}}}, {L: []api.Head{{Kind: api.TRecord, Open: true}}},
		{L: []api.Head{{Kind: api.TVariant, Names: []string{"a"}}}}, {L: []api.Head{{Kind: api.TVariant, Kids: []int{0}}}},
	}
	for _, room := range []int{0, 1, 2, 50} {
		for _, n := range []int{0, 1, 2, 3} {
			if n+room == 0 {
				continue
			}
			x := ahead(t, n+room, n)
			for _, g := range wrong {
				if mayBeGraph(g) {
					t.Errorf("the test's own words are wrong: %v", g)
				}
				if i, e := x.Arena.Graph(g); i != 0 || e != api.ErrForm {
					t.Errorf("%v behind %d with room for %d: %d, %d", g, n, room, i, e)
				}
				x.asAnew(short(g))
			}
			x.Var(1)
			x.asAnew("behind all that")
		}
	}
}

// P12.1: the numbers in a graph are its own: kids that a part of the arena has, but no head of the graph, may not be.
func TestGraphsOwnNumbers(t *testing.T) {
	x := ahead(t, 50, 6)
	for _, g := range []api.Graph{made(0, "> 1 1"), made(0, "> 5 0"), made(0, "{ a:4"), made(4, "i")} {
		if i, e := x.Arena.Graph(g); i != 0 || e != api.ErrForm {
			t.Errorf("%v: %d, %d", g, i, e)
		}
	}
	x.Graph(made(1, "i", "> 0 1"))
	if h, _ := x.At(6); !equalHeads(h, headMade("> 7 6")) {
		t.Error(h)
	}
	x.asAnew("own numbers")
}

// P12.1: the same graph twice, and others that mean the same: each has heads of its own, apart from the first ones.
func TestGraphTwice(t *testing.T) {
	x := pair(t, 100)
	g := made(0, "> 1 2", "{ a:0 b:2", "] a:1 let:2")
	like := made(2, "] a:1 let:0", "{ a:2 b:3", "> 1 0", "] a:4 let:0", "{ a:2 b:0")
	for i, one := range []api.Graph{g, g, like, g, like} {
		if n := x.Graph(one); n != 3*i {
			t.Errorf("%d: %d", i, n)
		}
		x.asAnew("once more")
	}
	if x.Len() != 15 {
		t.Error(x.Len())
	}
	// Heads of parts of both, and of variables beside.
	x.Var(3)
	x.head("> 3 6")
	x.head("> 3 15")
	x.asAnew("heads of both")
	if x.Level(16) != 0 || x.Level(17) != 3 {
		t.Error(x.Level(16), x.Level(17))
	}
}

// P12.1: what goes in reads as the graph again.
func TestGraphReadAgain(t *testing.T) {
	for i := range 300 {
		chance := by(i)
		x := ahead(t, 200, chance.Intn(9))
		first := x.Len()
		g := anyGraph(chance)
		root := x.Graph(g)
		var again api.Graph
		for k := first; k < x.Len(); k++ {
			h, _ := x.At(k)
			for place := range h.Kids {
				h.Kids[place] -= first
			}
			again.L = append(again.L, h)
		}
		again.Root = root - first
		if n, e := graph.Normal(g); e != api.OK || !graph.Same(g, again) || again.Root != 0 || len(n.L) != len(again.L) {
			t.Errorf("%v: %v, %d", g, again, e)
		}
	}
}
