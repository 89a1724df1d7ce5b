package graph_test

import (
	"reflect"
	"slices"
	"testing"

	"azimuth/api"
	"azimuth/graph"
)

// spared: a list with spare room behind it, in which something stands.
func spared[T any](l []T, spare T) []T {
	return append(append(make([]T, 0, len(l)+2), l...), spare, spare)[:len(l)]
}

// roomy: a graph whose lists all have spare room.
func roomy(g api.Graph) api.Graph {
	x := api.Graph{Root: g.Root}
	for _, h := range g.L {
		h.Names, h.Kids = spared(h.Names, "spare"), spared(h.Kids, -7)
		x.L = append(x.L, h)
	}
	x.L = spared(x.L, api.Head{Kind: -7, Names: []string{"spare"}})
	return x
}

// all of a list, its spare room too, copied.
func all[T any](l []T) []T { return slices.Clone(l[:cap(l)]) }

// shown: a copy of a graph with all of its spare room to be seen.
func shown(g api.Graph) api.Graph {
	x := api.Graph{L: all(g.L), Root: g.Root}
	for i, h := range x.L {
		x.L[i].Names, x.L[i].Kids = all(h.Names), all(h.Kids)
	}
	return x
}

// scribble writes over all of a graph, its spare room too.
func scribble(g api.Graph) {
	for i, h := range g.L[:cap(g.L)] {
		for k := range h.Names[:cap(h.Names)] {
			h.Names[:cap(h.Names)][k] = "changed"
		}
		for k := range h.Kids[:cap(h.Kids)] {
			h.Kids[:cap(h.Kids)][k] = -9
		}
		g.L[:cap(g.L)][i] = api.Head{Kind: -9}
	}
}

// some graphs: normal ones, others, and some that may not be.
func some() []api.Graph {
	return []api.Graph{
		made(0, "i"),
		made(0, "{"),
		made(0, "> 1 2", "{ a:2 b:0", "] c:1"),
		made(2, "i", "i", "> 1 0", "{ a:0"),
		made(1, "{ a:2 ab:3 b:0", "> 0 0", "{ a:0 ab:1 b:0", "[ in:1"),
		grown(),
		{},
		made(0, "> 1 2", "{ b:0 a:0", "] c:1"),
		made(0, "{ a:0 b:1"),
		made(3, "i"),
	}
}

// P8.3: graphs that are handed in aren't changed, their spare room neither.
func TestUnchanged(t *testing.T) {
	for _, g := range some() {
		x, y := roomy(g), roomy(some()[4])
		wasX, wasY := shown(x), shown(y)
		look := func(what string) {
			t.Helper()
			if !reflect.DeepEqual(shown(x), wasX) || !reflect.DeepEqual(shown(y), wasY) {
				t.Errorf("%v: %s changes what is handed in", g, what)
			}
		}
		look("nothing")
		graph.Check(x)
		look("Check")
		graph.Normal(x)
		look("Normal")
		graph.Same(x, y)
		graph.Same(y, x)
		graph.Same(x, x)
		look("Same")
		for i := -1; i <= len(x.L); i++ {
			graph.At(x, i)
			look("At")
		}
		graph.Bytes(x)
		look("Bytes")
	}
}

// P8.3: bytes that are handed in aren't changed, nor kept.
func TestBytesUnchanged(t *testing.T) {
	for _, text := range append(goodBytes(), "", "{a:1", ">01,1,;i;", "{b:0,a:0,;") {
		b := spared([]byte(text), '!')
		was := all(b)
		g, e := graph.Parse(b)
		if !slices.Equal(all(b), was) {
			t.Errorf("%q: Parse changes what is handed in", text)
		}
		for i := range b[:cap(b)] {
			b[:cap(b)][i] = 'z'
		}
		if e == api.OK && written(t, g) != text {
			t.Errorf("%q: what is parsed hangs on bytes that were handed in: %v", text, g)
		}
	}
}

// roomyTree: a tree whose lists all have spare room.
func roomyTree(x api.Tree) api.Tree {
	for i, n := range x.Nodes {
		x.Nodes[i].Kids, x.Nodes[i].Types, x.Nodes[i].Names = spared(n.Kids, -7), spared(n.Types, -7), spared(n.Names, "spare")
	}
	for i, n := range x.Types {
		x.Types[i].Kids, x.Types[i].Names = spared(n.Kids, -7), spared(n.Names, "spare")
	}
	return api.Tree{
		Nodes:   spared(x.Nodes, api.Node{Name: "spare"}),
		Types:   spared(x.Types, api.TypeNode{Name: "spare"}),
		Aliases: spared(x.Aliases, api.Alias{Name: "Spare"}),
	}
}

func shownTree(x api.Tree) api.Tree {
	y := api.Tree{Nodes: all(x.Nodes), Types: all(x.Types), Aliases: all(x.Aliases)}
	for i, n := range y.Nodes {
		y.Nodes[i].Kids, y.Nodes[i].Types, y.Nodes[i].Names = all(n.Kids), all(n.Types), all(n.Names)
	}
	for i, n := range y.Types {
		y.Types[i].Kids, y.Types[i].Names = all(n.Kids), all(n.Names)
	}
	return y
}

// P8.3: trees that are handed in aren't changed, whether their names rise or not, with terms and without, nor kept.
func TestTreeUnchanged(t *testing.T) {
	for _, text := range []string{
		"{c: int, a: {z: A, b: int}, b: [#c {} | #a int | ..]}", "A -> B", "{b: X, a: L}", "{b: L, a: X}", "[#b A | #a B]", "D",
	} {
		for _, wrong := range []bool{false, true} {
			for _, terms := range []bool{true, false} {
				x, root := under(t, "type A = {z: A, b: B, a: int}; type B = C; type C = int; type L = L; type D = {b: int, a: D};", text)
				x = roomyTree(x)
				if wrong {
					x.Types[0].Kids = spared([]int{99}, -7)
				}
				if !terms {
					x.Nodes = x.Nodes[:0]
				}
				was := shownTree(x)
				for i := -1; i <= len(x.Types); i++ {
					graph.Of(x, i)
				}
				g, e := graph.Of(x, root)
				if !reflect.DeepEqual(shownTree(x), was) {
					t.Errorf("%q: Of changes what is handed in", text)
				}
				if e != api.OK {
					continue
				}
				want := written(t, g)
				for i, n := range x.Types {
					for k := range n.Names {
						n.Names[k] = "changed"
					}
					for k := range n.Kids {
						n.Kids[k] = 0
					}
					x.Types[i] = api.TypeNode{Kind: api.TStr}
				}
				if s := written(t, g); s != want {
					t.Errorf("%q: the graph hangs on the tree that was handed in: %q, %q", text, s, want)
				}
			}
		}
	}
}

// answers are all that is told of a graph that may be.
func answers(t *testing.T, g api.Graph) []api.Graph {
	t.Helper()
	var l []api.Graph
	add := func(x api.Graph, e api.Errno) {
		t.Helper()
		if e != api.OK {
			t.Fatal(e)
		}
		l = append(l, x)
	}
	add(graph.Normal(g))
	for i := range g.L {
		add(graph.At(g, i))
	}
	add(graph.Parse([]byte(written(t, g))))
	x := alone(t, "{b: int, a: int -> [#c {} | ..]}")
	add(graph.Of(x, len(x.Types)-1))
	return append(l, graph.Basic(api.TInt), graph.Basic(api.TNone))
}

// P8.3: answers are new memory: what becomes of one is nothing to the others, nor to what was handed in.
func TestNewMemory(t *testing.T) {
	for _, g := range some()[:6] {
		g = roomy(g)
		was := shown(g)
		want := answers(t, g)
		text := written(t, g)
		one, two := answers(t, g), answers(t, g)
		for i, x := range one {
			scribble(x)
			if !reflect.DeepEqual(shown(g), was) {
				t.Errorf("%v: an answer shares memory with what was handed in", g)
			}
			for k := range two {
				if !equal(two[k], want[k]) || k > i && !equal(one[k], want[k]) {
					t.Errorf("%v: answer %d shares memory with answer %d", g, k, i)
				}
			}
		}
		for i, x := range answers(t, g) {
			if !equal(x, want[i]) {
				t.Errorf("%v: an answer that was changed is told again: %v", g, x)
			}
		}
		b, _ := graph.Bytes(g)
		c, _ := graph.Bytes(g)
		for i := range b[:cap(b)] {
			b[:cap(b)][i] = '!'
		}
		if d, _ := graph.Bytes(g); string(c) != text || string(d) != text {
			t.Errorf("%v: Bytes share memory: %q, %q", g, c, d)
		}
		// What is handed in may change behind the call.
		scribble(roomyOf(g, func(x api.Graph) {
			for i, y := range answers(t, x) {
				if !equal(y, want[i]) {
					t.Errorf("%v: %v", g, y)
				}
			}
		}))
	}
}

// roomyOf does something with a graph's copy, and hands it back.
func roomyOf(g api.Graph, do func(x api.Graph)) api.Graph {
	x := roomy(g)
	do(x)
	return x
}

// P8.3: of one answer no two lists share any memory.
func TestListsApart(t *testing.T) {
	for _, g := range some()[:6] {
		for _, x := range answers(t, g) {
			want := shown(x)
			for i, h := range x.L {
				names, kids := all(h.Names), all(h.Kids)
				for k := range h.Names[:cap(h.Names)] {
					h.Names[:cap(h.Names)][k] = "changed"
				}
				for k := range h.Kids[:cap(h.Kids)] {
					h.Kids[:cap(h.Kids)][k] = -9
				}
				for k, other := range x.L {
					if k != i && !equalHeads(other, api.Head{Kind: want.L[k].Kind, Open: want.L[k].Open, Names: want.L[k].Names[:len(other.Names)], Kids: want.L[k].Kids[:len(other.Kids)]}) {
						t.Errorf("%v: heads %d and %d share memory", want, i, k)
					}
				}
				copy(h.Names[:cap(h.Names)], names)
				copy(h.Kids[:cap(h.Kids)], kids)
			}
		}
	}
}

// P8.3: a graph that is changed behind a call is told anew by the next one.
func TestChangedBehind(t *testing.T) {
	g := made(0, "{ a:1 b:1", "i")
	n, e := graph.Normal(g)
	at, f := graph.At(g, 0)
	if e != api.OK || f != api.OK || written(t, g) != "{a:1,b:1,;i;" {
		t.Error(e, f)
	}
	g.L[0].Names[1], g.L[0].Kids[1], g.L[1].Kind = "c", 0, api.TBool
	for _, x := range []api.Graph{n, at} {
		if s := written(t, x); s != "{a:1,b:1,;i;" {
			t.Errorf("%q", s)
		}
	}
	if s := written(t, g); s != "{a:1,c:0,;b;" || graph.Same(g, n) {
		t.Errorf("%q", s)
	}
	g.L[0].Kids[1] = 2
	refused(t, "a graph that was changed", g)
	g.L[0].Kids[1] = 0
	if graph.Check(g) != api.OK || graph.Same(g, n) {
		t.Error(g)
	}
}

// P8.3: so are a tree, and bytes.
func TestChangedTree(t *testing.T) {
	x, i := under(t, "type A = int;", "{b: A, a: A}")
	for _, want := range []string{"{a:1,b:1,;i;", "{a:1,b:1,;b;", "{a:1,b:1,;s;"} {
		if g, e := graph.Of(x, i); e != api.OK || written(t, g) != want {
			t.Errorf("%v, %d; it is %q", g, e, want)
		}
		x.Types[x.Aliases[0].Type].Kind++
	}
	x.Types[i].Names[0] = "c"
	x.Aliases[0].Name = "B"
	if g, e := graph.Of(x, i); e != api.ErrName || !equal(g, api.Graph{}) {
		t.Error(g, e)
	}
	x.Aliases[0].Name = "A"
	if g, e := graph.Of(x, i); e != api.OK || written(t, g) != "{a:1,c:1,;f;" {
		t.Error(g, e)
	}
	x.Types[i].Names[0] = "a"
	if g, e := graph.Of(x, i); e != api.ErrForm || !equal(g, api.Graph{}) {
		t.Error(g, e)
	}
	b := []byte("{a:1,;i;")
	if g, e := graph.Parse(b); e != api.OK || !equal(g, made(0, "{ a:1", "i")) {
		t.Error(g, e)
	}
	b[0], b[6] = '[', 's'
	if g, e := graph.Parse(b); e != api.OK || !equal(g, made(0, "[ a:1", "s")) {
		t.Error(g, e)
	}
	b[3] = '2'
	if g, e := graph.Parse(b); e != api.ErrForm || !equal(g, api.Graph{}) {
		t.Error(g, e)
	}
}
