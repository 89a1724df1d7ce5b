package below_test

import (
	"fmt"
	"reflect"
	"slices"
	"sync"
	"testing"

	"azimuth/api"
	"azimuth/below"
)

// spared: a list with spare room behind it, in which something stands.
func spared[T any](l []T, spare T) []T {
	return append(append(make([]T, 0, len(l)+2), l...), spare, spare)[:len(l)]
}

// roomy: a graph whose lists all have spare room.
func roomy(g api.Graph) api.Graph {
	x := api.Graph{Root: g.Root}
	for _, h := range g.L {
		h.Names, h.Kids = spared(h.Names, "spare"), spared(h.Kids, -7)
		x.L = append(x.L, h)
	}
	x.L = spared(x.L, api.Head{Kind: -7, Names: []string{"spare"}})
	return x
}

// all of a list, its spare room too, copied.
func all[T any](l []T) []T { return slices.Clone(l[:cap(l)]) }

// shown: a copy of a graph with all of its spare room to be seen.
func shown(g api.Graph) api.Graph {
	x := api.Graph{L: all(g.L), Root: g.Root}
	for i, h := range x.L {
		x.L[i].Names, x.L[i].Kids = all(h.Names), all(h.Kids)
	}
	return x
}

// shownRow: so of a row.
func shownRow(l []api.Graph) []api.Graph {
	l = all(l)
	for i, g := range l {
		l[i] = shown(g)
	}
	return l
}

// some graphs: normal ones, others, and some that may not be.
func some() []api.Graph {
	return []api.Graph{
		made(0, "i"),
		made(0, "{"),
		made(0, "> 1 2", "{ a:2 b:0", "] c:1"),
		made(2, "i", "i", "> 1 0", "{ a:0"),
		made(1, "{ a:2 ab:3 b:0", "> 0 0", "{ a:0 ab:1 b:0", "[ in:1"),
		made(1, "{ a:2 ab:3 b:0", "> 0 0", "{ a:0 ab:1 b:0", "[ in:1 of:1"),
		grown(),
		{},
		made(0, "> 1 2", "{ b:0 a:0", "] c:1"),
		made(0, "{ a:0 b:1"),
		made(3, "i"),
		made(0, "*"),
		made(1, "*", "!"),
	}
}

// P9.2: what is handed in isn't changed, its spare room neither.
func TestUnchanged(t *testing.T) {
	for _, g := range some() {
		for _, other := range some() {
			x, y := roomy(g), roomy(other)
			l := spared([]api.Graph{x, y, x}, roomy(some()[2]))
			was, wasX, wasY := shownRow(l), shown(x), shown(y)
			look := func(what string) {
				t.Helper()
				if !reflect.DeepEqual(shown(x), wasX) || !reflect.DeepEqual(shown(y), wasY) || !reflect.DeepEqual(shownRow(l), was) {
					t.Errorf("%s, %s: %s changes what is handed in", short(g), short(other), what)
				}
			}
			look("nothing")
			below.Below(x, y)
			below.Below(x, x)
			look("Below")
			below.Equal(x, y)
			below.Equal(y, y)
			look("Equal")
			below.Table(l)
			look("Table")
		}
	}
}

// P9.2: lists of Table's answer share no memory with one another, nor with another answer, their spare room neither.
func TestNewMemory(t *testing.T) {
	one, two := below.Table(some()), below.Table(some())
	want := shownTable(two)
	if shownTable(one) != want {
		t.Errorf("%v, then %v", one, two)
	}
	for i, row := range one {
		was := shownTable(slices.Concat(one[:i], one[i+1:]))
		for k := range row[:cap(row)] {
			row[:cap(row)][k] = !row[:cap(row)][k]
		}
		if shownTable(slices.Concat(one[:i], one[i+1:])) != was || shownTable(two) != want {
			t.Errorf("row %d shares memory with others", i)
		}
	}
	clear(one[:cap(one)])
	if shownTable(two) != want || shownTable(below.Table(some())) != want {
		t.Errorf("an answer hangs on one ahead of it: %v", two)
	}
}

// P9.2: a graph that is changed after it was handed in: answers are of what it is then, those told already stay.
func TestChangedBehind(t *testing.T) {
	a, b := made(0, "{ a:1 b:1", "i"), made(0, "{ a:1 b:1", "i")
	l := []api.Graph{a, b}
	table := below.Table(l)
	told(t, "as it is", a, b, true, true)
	b.L[1].Kind = api.TAny
	told(t, "with any", a, b, true, false)
	a.L[0].Names, a.L[0].Kids = a.L[0].Names[:1], a.L[0].Kids[:1]
	told(t, "a name less", a, b, false, false)
	b.L[0].Kids[1] = 2
	refused(t, "a kid that isn't there", b)
	if below.Below(a, b) || below.Below(b, a) || below.Equal(a, b) {
		t.Error("a graph that was changed")
	}
	b.L[0].Kids[1], b.L[0].Names[1] = 1, "a"
	refused(t, "a name twice", b)
	b.L[0].Names[1], b.L[0].Kids[1] = "aa", 0
	told(t, "another name", a, b, false, false)
	b.L[0].Names, b.L[0].Kids = b.L[0].Names[:1], b.L[0].Kids[:1]
	told(t, "as it was, with any", a, b, true, false)
	l[0], l[1] = made(0, "i"), made(0, "b")
	if s := shownTable(table); s != "11 11" {
		t.Errorf("what was told hangs on what was handed in: %s", s)
	}
	if s := shownTable(below.Table(l)); s != "10 01" {
		t.Error(s)
	}
}

// P9.2: answers hang on nothing that was asked ahead of them.
func TestAskedAgain(t *testing.T) {
	l := some()
	want := shownTable(below.Table(l))
	for round := range 3 {
		for i := range l {
			for j := range l {
				below.Below(l[(i+round)%len(l)], l[j])
			}
		}
		if s := shownTable(below.Table(l)); s != want {
			t.Errorf("%s, then %s", want, s)
		}
	}
}

// P9.2: the same graphs, asked by several at once.
func TestAtOnce(t *testing.T) {
	l := some()
	want := shownTable(below.Table(l))
	told := make([]string, 8)
	var wait sync.WaitGroup
	for i := range told {
		wait.Go(func() { told[i] = shownTable(below.Table(l)) })
	}
	wait.Wait()
	for i, s := range told {
		if s != want {
			t.Error(fmt.Sprint(i, ": ", s, ", not ", want))
		}
	}
}
