package lattice_test

import (
	"reflect"
	"slices"
	"sync"
	"testing"

	"azimuth/api"
	"azimuth/graph"
	"azimuth/lattice"
)

// spared: a list with spare room behind it, in which something stands.
func spared[T any](l []T, spare T) []T {
	return append(append(make([]T, 0, len(l)+2), l...), spare, spare)[:len(l)]
}

// roomy: a graph whose lists all have spare room.
func roomy(g api.Graph) api.Graph {
	x := api.Graph{Root: g.Root}
	for _, h := range g.L {
		h.Names, h.Kids = spared(h.Names, "spare"), spared(h.Kids, -7)
		x.L = append(x.L, h)
	}
	x.L = spared(x.L, api.Head{Kind: -7, Names: []string{"spare"}})
	return x
}

// all of a list, its spare room too, copied.
func all[T any](l []T) []T { return slices.Clone(l[:cap(l)]) }

// shown: a copy of a graph with all of its spare room to be seen.
func shown(g api.Graph) api.Graph {
	x := api.Graph{L: all(g.L), Root: g.Root}
	for i, h := range x.L {
		x.L[i].Names, x.L[i].Kids = all(h.Names), all(h.Kids)
	}
	return x
}

// shownRow: so of a row.
func shownRow(l []api.Graph) []api.Graph {
	l = all(l)
	for i, g := range l {
		l[i] = shown(g)
	}
	return l
}

// scribble writes over all of a graph, its spare room too.
func scribble(g api.Graph) {
	for i, h := range g.L[:cap(g.L)] {
		for k := range h.Names[:cap(h.Names)] {
			h.Names[:cap(h.Names)][k] = "changed"
		}
		for k := range h.Kids[:cap(h.Kids)] {
			h.Kids[:cap(h.Kids)][k] = -9
		}
		g.L[:cap(g.L)][i] = api.Head{Kind: -9}
	}
}

// some graphs: normal ones, others, and some that may not be.
func some() []api.Graph {
	return []api.Graph{
		made(0, "i"),
		made(0, "{"),
		made(0, "> 1 2", "{ a:2 b:0", "] c:1"),
		made(2, "i", "i", "> 1 0", "{ a:0"),
		made(1, "{ a:2 ab:3 b:0", "> 0 0", "{ a:0 ab:1 b:0", "[ in:1"),
		made(1, "{ a:2 ab:3 b:0", "> 0 0", "{ a:0 ab:1 b:0", "[ in:1 of:1"),
		grown(),
		{},
		made(0, "> 1 2", "{ b:0 a:0", "] c:1"),
		made(0, "{ a:0 b:1"),
		made(3, "i"),
		made(0, "*"),
		made(1, "*", "!"),
	}
}

// P11.2: what is handed in isn't changed, its spare room neither.
func TestUnchanged(t *testing.T) {
	for _, g := range some() {
		for _, other := range some() {
			x, y := roomy(g), roomy(other)
			l := spared([]api.Graph{x, y, x}, roomy(some()[2]))
			was, wasX, wasY := shownRow(l), shown(x), shown(y)
			look := func(what string) {
				t.Helper()
				if !reflect.DeepEqual(shown(x), wasX) || !reflect.DeepEqual(shown(y), wasY) || !reflect.DeepEqual(shownRow(l), was) {
					t.Errorf("%s, %s: %s changes what is handed in", short(g), short(other), what)
				}
			}
			look("nothing")
			lattice.Join(x, y)
			lattice.Join(x, x)
			look("Join")
			lattice.Meet(x, y)
			lattice.Meet(y, y)
			look("Meet")
			lattice.All(l, true)
			lattice.All(l[:1], true)
			look("All, join")
			lattice.All(l, false)
			lattice.All(l[1:2], false)
			look("All, meet")
		}
	}
}

// answers are all that is told of two graphs.
func answers(a, b api.Graph) []api.Graph {
	var l []api.Graph
	add := func(g api.Graph, _ api.Errno) { l = append(l, g) }
	add(lattice.Join(a, b))
	add(lattice.Meet(a, b))
	add(lattice.Join(b, a))
	add(lattice.Meet(a, a))
	for _, join := range []bool{true, false} {
		add(lattice.All(nil, join))
		add(lattice.All([]api.Graph{a}, join))
		add(lattice.All([]api.Graph{b, a}, join))
		add(lattice.All([]api.Graph{a, b, a}, join))
	}
	return l
}

// P11.2: answers are new memory: what becomes of one is nothing to the others, nor to what was handed in, and the other way round.
func TestNewMemory(t *testing.T) {
	graphs := append(some(), graph.Basic(api.TNone), made(0, "{ a:1 d:0", "] c:0"))
	for _, g := range graphs {
		for _, other := range graphs {
			a, b := roomy(g), roomy(other)
			wasA, wasB := shown(a), shown(b)
			want := answers(a, b)
			one, two := answers(a, b), answers(a, b)
			for i, x := range one {
				scribble(x)
				if !reflect.DeepEqual(shown(a), wasA) || !reflect.DeepEqual(shown(b), wasB) {
					t.Errorf("%s, %s: answer %d shares memory with what was handed in", short(g), short(other), i)
				}
				for k := range two {
					if !equal(two[k], want[k]) || k > i && !equal(one[k], want[k]) {
						t.Errorf("%s, %s: answer %d shares memory with answer %d", short(g), short(other), k, i)
					}
				}
			}
			scribble(a)
			scribble(b)
			for k, x := range answers(roomy(g), roomy(other)) {
				if !equal(x, want[k]) || !equal(two[k], want[k]) {
					t.Errorf("%s, %s: answer %d hangs on what was handed in ahead, or was told: %s, %s", short(g), short(other), k, short(x), short(two[k]))
				}
			}
		}
	}
}

// P11.2: of one answer no two lists share any memory.
func TestListsApart(t *testing.T) {
	for _, g := range some()[:7] {
		for _, other := range some()[:7] {
			for _, x := range answers(g, other) {
				apart(t, x)
			}
		}
	}
}

// apart looks whether what is written in the lists of one head is to be seen in no other head.
func apart(t *testing.T, x api.Graph) {
	t.Helper()
	want := cloned(x)
	for i, h := range x.L {
		names, kids := all(h.Names), all(h.Kids)
		for k := range h.Names[:cap(h.Names)] {
			h.Names[:cap(h.Names)][k] = "changed"
		}
		for k := range h.Kids[:cap(h.Kids)] {
			h.Kids[:cap(h.Kids)][k] = -9
		}
		for k, other := range x.L {
			if k != i && (!slices.Equal(other.Names, want.L[k].Names) || !slices.Equal(other.Kids, want.L[k].Kids)) {
				t.Errorf("%s: heads %d and %d share memory", short(want), i, k)
			}
		}
		copy(h.Names[:cap(h.Names)], names)
		copy(h.Kids[:cap(h.Kids)], kids)
	}
}

// P11.2: a graph or a row that is changed after it was handed in: answers are of what it is then, those told already stay.
func TestChangedBehind(t *testing.T) {
	a, b := made(0, "{ a:1 b:1", "i"), made(0, "{ a:1 c:1", "i")
	l := []api.Graph{a, b}
	join, _ := lattice.Join(a, b)
	meet, _ := lattice.Meet(a, b)
	row, _ := lattice.All(l, true)
	wantJoin, wantMeet := made(0, "{ a:1", "i"), made(0, "{ a:1 b:1 c:1", "i")
	told(t, "as it is", a, b, wantJoin, wantMeet)
	b.L[1].Kind = api.TAny
	told(t, "with any", a, b, made(0, "{ a:1", "*"), made(0, "{ a:1 b:1 c:2", "i", "*"))
	a.L[0].Names, a.L[0].Kids = a.L[0].Names[:1], a.L[0].Kids[:1]
	told(t, "a name less", a, b, made(0, "{ a:1", "*"), made(0, "{ a:1 c:2", "i", "*"))
	b.L[0].Kids[1] = 2
	refused(t, "a kid that isn't there", b)
	b.L[0].Kids[1], b.L[0].Names[1] = 1, "a"
	refused(t, "a name twice", b)
	b.L[0].Names[1], b.L[0].Kids[0] = "aa", 0
	told(t, "another kid", a, b, made(0, "{ a:1", "*"), made(0, "{ a:1 aa:2", "!", "*"))
	l[0], l[1] = made(0, "i"), made(0, "b")
	if !equal(join, wantJoin) || !equal(meet, wantMeet) || !equal(row, wantJoin) {
		t.Errorf("what was told hangs on what was handed in: %s, %s, %s", short(join), short(meet), short(row))
	}
	if g, e := lattice.All(l, true); e != api.OK || !equal(g, graph.Basic(api.TAny)) {
		t.Errorf("%s, %d", short(g), e)
	}
}

// P11.2: answers hang on nothing that was asked ahead of them, nor on others that ask.
func TestAskedAgain(t *testing.T) {
	graphs := some()
	told := func() (l []api.Graph) {
		for i, a := range graphs {
			for _, b := range graphs[i:] {
				l = append(l, answers(a, b)...)
			}
		}
		return l
	}
	want := told()
	var wait sync.WaitGroup
	several := make([][]api.Graph, 8)
	for i := range several {
		wait.Go(func() { several[i] = told() })
	}
	wait.Wait()
	for i, l := range append(several, told()) {
		if !slices.EqualFunc(l, want, equal) {
			t.Errorf("told otherwise: %d", i)
		}
	}
}
