package alike_test

import (
	"reflect"
	"slices"
	"sync"
	"testing"

	"azimuth/alike"
	"azimuth/api"
)

// spared: a list with spare room behind it, in which something stands.
func spared[T any](l []T, spare T) []T {
	return append(append(make([]T, 0, len(l)+2), l...), spare, spare)[:len(l)]
}

// roomy: a graph whose lists all have spare room.
func roomy(g api.Graph) api.Graph {
	x := api.Graph{Root: g.Root}
	for _, h := range g.L {
		h.Names, h.Kids = spared(h.Names, "spare"), spared(h.Kids, -7)
		x.L = append(x.L, h)
	}
	x.L = spared(x.L, api.Head{Kind: -7, Names: []string{"spare"}})
	return x
}

// all of a list, its spare room too, copied.
func all[T any](l []T) []T { return slices.Clone(l[:cap(l)]) }

// shown: a copy of a graph with all of its spare room to be seen.
func shown(g api.Graph) api.Graph {
	x := api.Graph{L: all(g.L), Root: g.Root}
	for i, h := range x.L {
		x.L[i].Names, x.L[i].Kids = all(h.Names), all(h.Kids)
	}
	return x
}

// some graphs: normal ones, others, and some that may not be.
func some() []api.Graph {
	return []api.Graph{
		made(0, "i"),
		made(0, "d"),
		made(0, "{"),
		made(0, "> 1 2", "{ a:2 b:0", "] c:1"),
		made(2, "i", "i", "> 1 0", "{ a:0"),
		made(1, "{ a:2 ab:3 b:0", "> 0 0", "{ a:0 ab:1 b:0", "[ in:1"),
		made(1, "{ a:2 ab:3 b:0", "> 0 0", "{ a:0 ab:1 b:0", "[ in:1 of:1"),
		made(0, "[ a:1 b:0", "d"),
		made(0, "] a:1 b:0", "d"),
		grown(),
		{},
		made(0, "> 1 2", "{ b:0 a:0", "] c:1"),
		made(0, "{ a:0 b:1"),
		made(3, "i"),
		made(0, "*"),
		made(1, "*", "!"),
	}
}

// answers: all that is told of some graphs, with one another and with dyn.
func answers(l []api.Graph) string {
	var s []byte
	put := func(answer bool) {
		if answer {
			s = append(s, '1')
		} else {
			s = append(s, '0')
		}
	}
	for _, g := range l {
		put(alike.ToDyn(g))
		put(alike.FromDyn(g))
		for _, other := range l {
			put(alike.May(g, other))
		}
		s = append(s, ' ')
	}
	return string(s)
}

// P10.2: what is handed in isn't changed, its spare room neither.
func TestUnchanged(t *testing.T) {
	for _, g := range some() {
		for _, other := range some() {
			x, y := roomy(g), roomy(other)
			wasX, wasY := shown(x), shown(y)
			look := func(what string) {
				t.Helper()
				if !reflect.DeepEqual(shown(x), wasX) || !reflect.DeepEqual(shown(y), wasY) {
					t.Errorf("%s, %s: %s changes what is handed in", short(g), short(other), what)
				}
			}
			look("nothing")
			alike.May(x, y)
			alike.May(x, x)
			look("May")
			alike.ToDyn(x)
			look("ToDyn")
			alike.FromDyn(x)
			look("FromDyn")
		}
	}
}

// P10.2: a graph that is changed after it was handed in: answers are of what it is then.
func TestChangedBehind(t *testing.T) {
	a, b := made(0, "{ a:1 b:1", "i"), made(0, "{ a:1 b:1", "i")
	told(t, "as it is", a, b, true, true)
	dynTold(t, "as it is", b, true, true)
	b.L[1].Kind = api.TAny
	told(t, "with any", a, b, true, false)
	dynTold(t, "with any", b, false, true)
	a.L[1].Kind = api.TDyn
	told(t, "dyn and any", a, b, true, false)
	b.L[1].Kind = api.TStr
	told(t, "dyn and str", a, b, true, true)
	a.L[0].Names, a.L[0].Kids = a.L[0].Names[:1], a.L[0].Kids[:1]
	told(t, "a name less", a, b, false, true)
	b.L[0].Kids[1] = 2
	refused(t, "a kid that isn't there", b)
	b.L[0].Kids[1], b.L[0].Names[1] = 1, "a"
	refused(t, "a name twice", b)
	b.L[0].Names[1], b.L[0].Kids[1] = "aa", 0
	told(t, "another name", a, b, false, true)
	b.L[0].Names, b.L[0].Kids = b.L[0].Names[:1], b.L[0].Kids[:1]
	told(t, "both a name less", a, b, true, true)
	b.L[1].Kind = api.TVariant
	dynTold(t, "with a variant", b, true, true)
	b.L[1].Open = true
	dynTold(t, "with an open one", b, false, true)
	told(t, "with an open one", a, b, true, false)
}

// P10.2: answers hang on nothing that was asked ahead of them.
func TestAskedAgain(t *testing.T) {
	l := some()
	want := answers(l)
	slices.Reverse(l)
	turned := answers(l)
	for range 3 {
		if s := answers(l); s != turned {
			t.Errorf("%s, then %s", turned, s)
		}
		if s := answers(some()); s != want {
			t.Errorf("%s, then %s", want, s)
		}
	}
}

// P10.2: the same graphs, asked by several at once.
func TestAtOnce(t *testing.T) {
	l := some()
	want := answers(l)
	told := make([]string, 8)
	var wait sync.WaitGroup
	for i := range told {
		wait.Go(func() { told[i] = answers(l) })
	}
	wait.Wait()
	for i, s := range told {
		if s != want {
			t.Errorf("%d: %s, not %s", i, s, want)
		}
	}
}
