package arena_test

import (
	"reflect"
	"slices"
	"sync"
	"testing"

	"azimuth/api"
)

// spared: a list with spare room behind it, in which something stands.
func spared[T any](l []T, spare T) []T {
	return append(append(make([]T, 0, len(l)+2), l...), spare, spare)[:len(l)]
}

func roomyHead(h api.Head) api.Head {
	h.Names, h.Kids = spared(h.Names, "spare"), spared(h.Kids, 0)
	return h
}

// roomy: a graph whose lists all have spare room.
func roomy(g api.Graph) api.Graph {
	x := api.Graph{Root: g.Root}
	for _, h := range g.L {
		x.L = append(x.L, roomyHead(h))
	}
	x.L = spared(x.L, api.Head{Kind: -7, Names: []string{"spare"}})
	return x
}

// all of a list, its spare room too, copied.
func all[T any](l []T) []T { return slices.Clone(l[:cap(l)]) }

func shownHead(h api.Head) api.Head {
	h.Names, h.Kids = all(h.Names), all(h.Kids)
	return h
}

// shown: a copy of a graph with all of its spare room to be seen.
func shown(g api.Graph) api.Graph {
	x := api.Graph{L: all(g.L), Root: g.Root}
	for i, h := range x.L {
		x.L[i] = shownHead(h)
	}
	return x
}

// fill writes over all of a list, its spare room too.
func fill[T any](l []T, with T) {
	for i := range l[:cap(l)] {
		l[:cap(l)][i] = with
	}
}

func scribbleHead(h api.Head) {
	fill(h.Names, "changed")
	fill(h.Kids, -9)
}

func scribble(g api.Graph) {
	for _, h := range g.L[:cap(g.L)] {
		scribbleHead(h)
	}
	fill(g.L, api.Head{Kind: -9})
}

// Heads, of which some may not be, behind three parts.
func someHeads() []api.Head {
	var l []api.Head
	for _, text := range []string{"i", "{", "]", "> 0 1", "> 2 2", "{ a:0 b:1 c:2", "[ a:2 in:1", "] let:0", "> 0 9", "> 0", "{ b:0 a:1", "{ a:-1", "[ a:3", "?"} {
		l = append(l, headMade(text))
	}
	return l
}

// Graphs: normal ones, others, and some that may not be.
func someGraphs() []api.Graph {
	return []api.Graph{
		made(0, "i"), made(0, "{"), made(0, "> 1 2", "{ a:2 b:0", "] c:1"), made(2, "i", "i", "> 1 0", "{ a:0"),
		made(1, "{ a:2 ab:3 b:0", "> 0 0", "{ a:0 ab:1 b:0", "[ in:1"), {}, made(0, "> 1 2", "{ b:0 a:0", "] c:1"), made(3, "i"), made(0, "> 0 0"),
	}
}

// three: an arena with three parts, and room.
func three(t *testing.T) *two {
	t.Helper()
	x := pair(t, 100)
	x.Var(4)
	x.head("> 0 0")
	x.Var(2)
	return x
}

// P12.3: what is handed in isn't changed, its spare room neither.
func TestUnchanged(t *testing.T) {
	for _, room := range []int{100, 3, 4} {
		for _, h := range someHeads() {
			x := three(t)
			if room < 100 {
				x = ahead(t, room, 3)
			}
			h := roomyHead(h)
			was := shownHead(h)
			x.Arena.Head(h)
			if !reflect.DeepEqual(shownHead(h), was) {
				t.Errorf("%v: Head changes what is handed in: %v", was, h)
			}
		}
		for _, g := range someGraphs() {
			x := three(t)
			if room < 100 {
				x = ahead(t, room, 3)
			}
			g := roomy(g)
			was := shown(g)
			x.Arena.Graph(g)
			if !reflect.DeepEqual(shown(g), was) {
				t.Errorf("%v: Graph changes what is handed in: %v", was, g)
			}
		}
	}
}

// P12.3: what is handed in isn't kept: what becomes of it afterwards is nothing to the arena.
func TestNotKept(t *testing.T) {
	x := three(t)
	for _, h := range someHeads() {
		h := roomyHead(h)
		x.Head(h)
		scribbleHead(h)
		x.asAnew("a head changed behind")
		// Once more, with what it is now, if that may be.
		h.Names, h.Kids = h.Names[:0], spared([]int{2, 1}, 0)
		h.Kind, h.Open = api.TFun, false
		x.Head(h)
		h.Kids[0], h.Kids[1] = 1, 0
		x.asAnew("a head changed behind, again")
	}
	for _, g := range someGraphs() {
		g := roomy(g)
		x.Graph(g)
		scribble(g)
		x.asAnew("a graph changed behind")
	}
	// One list for several heads, of which each has what stood there when it was told.
	kids, names := []int{0, 1}, []string{"a", "b"}
	x.Head(api.Head{Kind: api.TFun, Kids: kids})
	kids[0], kids[1] = 2, 0
	x.Head(api.Head{Kind: api.TRecord, Names: names, Kids: kids})
	names[1] = "c"
	x.Head(api.Head{Kind: api.TVariant, Names: names, Kids: kids})
	kids[1], names[0] = 7, "aa"
	x.Head(api.Head{Kind: api.TVariant, Names: names, Kids: kids, Open: true})
	x.asAnew("lists used again")
}

// P12.3: what is told is new memory: what becomes of it is nothing to the arena, nor to what else was told.
func TestNewMemory(t *testing.T) {
	x := three(t)
	for _, h := range someHeads() {
		x.Head(h)
	}
	for _, g := range someGraphs() {
		x.Graph(g)
	}
	for j := range x.Len() {
		x.Bound(0, j, true)
		x.Bound(2, x.Len()-1-j, true)
		x.Bound(0, x.Len()-1-j, false)
	}
	w := x.words
	for i := range x.Len() {
		one, _ := x.At(i)
		other, _ := x.At(i)
		scribbleHead(one)
		if !equalHeads(other, w.parts[i].head) {
			t.Errorf("At %d: two answers share memory", i)
		}
		for _, told := range []func(int) []int{x.Low, x.High} {
			one, other := told(i), told(i)
			was := slices.Clone(other)
			fill(one, -9)
			if !slices.Equal(other, was) {
				t.Errorf("bounds of %d: two answers share memory", i)
			}
		}
		x.asAnew("what was told changed")
	}
	var heads []api.Head
	for _, h := range x.Parts() {
		heads = append(heads, h)
	}
	for i, h := range x.Parts() {
		was, _ := x.At(i)
		scribbleHead(h)
		if own, _ := x.At(i); !equalHeads(own, was) || !equalHeads(heads[0], was) {
			t.Errorf("Parts, at %d, shares memory", i)
		}
		heads = heads[1:]
	}
	x.asAnew("what Parts told changed")
}

// P12.3: of what is told no two lists share memory, also not their spare room: bounds of one variable and of another, below and above.
func TestListsApart(t *testing.T) {
	x := three(t)
	for n := range 30 {
		x.Bound(0, n%3, n%2 == 0)
		x.Bound(2, n%3, n%2 == 1)
		x.Var(1)
		x.Bound(0, x.Len()-1, n%2 == 0)
		x.Bound(2, x.Len()-1, n%3 == 0)
		for _, l := range [][]int{x.Low(0), x.High(0), x.Low(2), x.High(2)} {
			fill(l, -9)
		}
		x.asAnew("bounds written over")
	}
}

// P12.3: what was told stays as it was told, whatever is done to the arena later.
func TestToldStays(t *testing.T) {
	x := three(t)
	x.Bound(0, 1, true)
	high, parts := x.High(0), x.Parts()
	h, _ := x.At(1)
	for n := range 40 {
		x.Var(1)
		x.Bound(0, 3+n, true)
		x.Bound(0, 3+n, false)
	}
	if !slices.Equal(high, []int{1}) || !equalHeads(h, headMade("> 0 0")) {
		t.Error(high, h)
	}
	for i, h := range parts {
		if i != 1 || !equalHeads(h, headMade("> 0 0")) {
			t.Error(i, h)
		}
	}
}

// P12.3: asking changes nothing, so that several may ask at one time; and what is told hangs on nothing that was asked.
func TestAskedByMany(t *testing.T) {
	x := three(t)
	x.Graph(someGraphs()[2])
	for j := range 6 {
		x.Bound(0, j, true)
		x.Bound(2, 5-j, false)
	}
	var wait sync.WaitGroup
	for range 8 {
		wait.Go(func() {
			for range 50 {
				x.asAnew("asked by many")
			}
		})
	}
	wait.Wait()
	x.asAnew("asked behind")
}
