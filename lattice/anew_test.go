package lattice_test

import (
	"fmt"
	"slices"
	"strconv"
	"strings"
	"testing"

	"azimuth/api"
	"azimuth/graph"
	"azimuth/lattice"
	"azimuth/parse"
)

// The chapter's words, said anew, name by name, so that the package isn't held against itself.

// made: a graph of heads, each its sign and, behind blanks, its kids, with a name and a colon ahead if they have one. Whether it may be isn't asked.
func made(root int, heads ...string) api.Graph {
	g := api.Graph{Root: root}
	for _, text := range heads {
		l := strings.Fields(text)
		h := api.Head{Kind: strings.Index("ibsfd*!>{[", l[0])}
		if l[0] == "]" {
			h.Kind, h.Open = api.TVariant, true
		}
		for _, kid := range l[1:] {
			if name, number, named := strings.Cut(kid, ":"); named {
				h.Names = append(h.Names, name)
				kid = number
			}
			n, err := strconv.Atoi(kid)
			if err != nil {
				panic("the test's own graph is wrong: " + text)
			}
			h.Kids = append(h.Kids, n)
		}
		g.L = append(g.L, h)
	}
	return g
}

// of: the graph of a type's text.
func of(t *testing.T, text string) api.Graph {
	t.Helper()
	x, d := parse.Type([]byte(text))
	if d.Error != api.OK {
		t.Fatalf("%q isn't parsed: %v", text, d)
	}
	g, e := graph.Of(x, len(x.Types)-1)
	if e != api.OK {
		t.Fatalf("%q: Of: %d", text, e)
	}
	return g
}

// under: the graph of a type's text, under aliases.
func under(t *testing.T, aliases, text string) api.Graph {
	t.Helper()
	x, d := parse.Text([]byte(aliases + " (x : " + text + ")"))
	if d.Error != api.OK {
		t.Fatalf("%q, %q isn't parsed: %v", aliases, text, d)
	}
	g, e := graph.Of(x, x.Nodes[len(x.Nodes)-1].Types[0])
	if e != api.OK {
		t.Fatalf("%q, %q: Of: %d", aliases, text, e)
	}
	return g
}

// short: a graph, or its beginning, to be told.
func short(g api.Graph) string {
	s := fmt.Sprintf("%+v", g)
	if len(s) > 300 {
		s = s[:300] + ".."
	}
	return s
}

// equal: are two graphs the same, number by number? nil and empty lists are.
func equal(a, b api.Graph) bool {
	return a.Root == b.Root && slices.EqualFunc(a.L, b.L, func(g, h api.Head) bool {
		return g.Kind == h.Kind && g.Open == h.Open && slices.Equal(g.Names, h.Names) && slices.Equal(g.Kids, h.Kids)
	})
}

// side is what stands at a place of a join or a meet: one of a head of each type, or, where the number of the other one is -1, a head as it is.
type side struct {
	join bool
	i, j int
}

// words are those of the chapter, of two graphs.
type words struct{ a, b api.Graph }

// settled: of none, or any, and a type that is the type itself, of which it doesn't matter whether it was to be joined or met.
func (w words) settled(s side) side {
	as := func(one bool, kind int) bool {
		return s.i >= 0 && s.j >= 0 && (one && w.a.L[s.i].Kind == kind || !one && w.b.L[s.j].Kind == kind)
	}
	counts := api.TAny
	if s.join {
		counts = api.TNone
	}
	switch {
	case as(true, counts):
		s.i = -1
	case as(false, counts):
		s.j = -1
	}
	if s.i < 0 || s.j < 0 {
		s.join = false
	}
	return s
}

func kidOf(h api.Head, name string) int {
	for k, n := range h.Names {
		if n == name {
			return h.Kids[k]
		}
	}
	return -1
}

// said: which head stands at a place, and at its kids; their numbers are told by themselves.
func (w words) said(s side) (api.Head, []side) {
	s = w.settled(s)
	if s.j < 0 {
		return stays(w.a.L[s.i], func(kid int) side { return side{false, kid, -1} })
	}
	if s.i < 0 {
		return stays(w.b.L[s.j], func(kid int) side { return side{false, -1, kid} })
	}
	it, that := w.a.L[s.i], w.b.L[s.j]
	switch {
	case it.Kind != that.Kind && s.join:
		return api.Head{Kind: api.TAny}, nil
	case it.Kind != that.Kind:
		return api.Head{Kind: api.TNone}, nil
	case it.Kind == api.TFun:
		return api.Head{Kind: api.TFun}, []side{{!s.join, it.Kids[0], that.Kids[0]}, {s.join, it.Kids[1], that.Kids[1]}}
	}
	h := api.Head{Kind: it.Kind}
	if s.join {
		h.Open = it.Open || that.Open
	} else {
		h.Open = it.Open && that.Open
	}
	names := append(slices.Clone(it.Names), that.Names...)
	slices.Sort(names)
	var kids []side
	for _, name := range slices.Compact(names) {
		one, other := kidOf(it, name), kidOf(that, name)
		if stands(s.join, it, that, one >= 0, other >= 0) {
			h.Names = append(h.Names, name)
			kids = append(kids, side{s.join && one >= 0 && other >= 0, one, other})
		}
	}
	return h, kids
}

func stays(h api.Head, to func(kid int) side) (api.Head, []side) {
	var kids []side
	for _, kid := range h.Kids {
		kids = append(kids, to(kid))
	}
	h.Kids = nil
	return h, kids
}

// stands: does a name stand in the join, or the meet, of two records, or variants, of which the one has it or hasn't, and the other one?
func stands(join bool, it, that api.Head, one, other bool) bool {
	both, open := one && other, 0
	for _, h := range []api.Head{it, that} {
		if h.Open {
			open++
		}
	}
	switch {
	case it.Kind == api.TRecord && join:
		return both
	case it.Kind == api.TRecord:
		return true
	case join && open == 0:
		return true
	case join && open == 2:
		return both
	case join:
		return it.Open && one || that.Open && other
	case open == 0:
		return both
	case open == 1:
		return it.Open && other || that.Open && one
	}
	return true
}

// heads: how many heads a join or a meet has ahead of being made normal.
func (w words) heads(join bool) int {
	first := w.settled(side{join, w.a.Root, w.b.Root})
	l := []side{first}
	met := map[side]bool{first: true}
	for at := 0; at < len(l); at++ {
		_, kids := w.said(l[at])
		for _, kid := range kids {
			if kid = w.settled(kid); !met[kid] {
				met[kid] = true
				l = append(l, kid)
			}
		}
	}
	return len(l)
}

// means: does a graph mean what the words say?
func (w words) means(g api.Graph, join bool) bool {
	type place struct {
		side
		k int
	}
	l := []place{{w.settled(side{join, w.a.Root, w.b.Root}), g.Root}}
	met := map[place]bool{l[0]: true}
	for at := 0; at < len(l); at++ {
		h, kids := w.said(l[at].side)
		own := g.L[l[at].k]
		if own.Kind != h.Kind || own.Open != h.Open || !slices.Equal(own.Names, h.Names) || len(own.Kids) != len(kids) {
			return false
		}
		for k, kid := range kids {
			next := place{w.settled(kid), own.Kids[k]}
			if !met[next] {
				met[next] = true
				l = append(l, next)
			}
		}
	}
	return true
}

// normal: is a graph its own normal one?
func normal(g api.Graph) bool {
	n, e := graph.Normal(g)
	return e == api.OK && equal(n, g)
}

// call is one of the ways to ask for a join or a meet of two.
type call func(a, b api.Graph) (api.Graph, api.Errno)

// calls of the package by which joins, or meets, are told.
func calls(join bool) map[string]call {
	all := func(a, b api.Graph) (api.Graph, api.Errno) { return lattice.All([]api.Graph{a, b}, join) }
	if join {
		return map[string]call{"Join": lattice.Join, "All, join": all}
	}
	return map[string]call{"Meet": lattice.Meet, "All, meet": all}
}

// asked looks whether each call tells the same of two graphs, in both orders.
func asked(t *testing.T, what string, a, b api.Graph, join bool, look func(g api.Graph, e api.Errno) bool) {
	t.Helper()
	for name, ask := range calls(join) {
		if g, e := ask(a, b); !look(g, e) {
			t.Errorf("%s: %s of %s and %s: %s, %d", what, name, short(a), short(b), short(g), e)
		}
		if g, e := ask(b, a); !look(g, e) {
			t.Errorf("%s: %s, turned, of %s and %s: %s, %d", what, name, short(b), short(a), short(g), e)
		}
	}
}

// asAnew looks whether what is told of two graphs that may be is as the words say anew; it answers how many heads the join has, and the meet, ahead of being made normal.
func asAnew(t *testing.T, what string, a, b api.Graph) (joined, met int) {
	t.Helper()
	w := words{a, b}
	joined, met = w.heads(true), w.heads(false)
	for join, n := range map[bool]int{true: joined, false: met} {
		if n > api.MaxStates {
			asked(t, fmt.Sprint(what, ", too many heads: ", n), a, b, join, tooMany)
			continue
		}
		x, e := calls(join)["All, "+map[bool]string{true: "join", false: "meet"}[join]](a, b)
		if e != api.OK || !normal(x) || !w.means(x, join) {
			t.Errorf("%s: of %s and %s, join %v: %s, %d", what, short(a), short(b), join, short(x), e)
		}
		asked(t, what, a, b, join, func(g api.Graph, e api.Errno) bool { return e == api.OK && equal(g, x) })
	}
	return joined, met
}

func tooMany(g api.Graph, e api.Errno) bool { return e == api.ErrMany && equal(g, api.Graph{}) }

// told looks whether all calls tell that a graph is the join of two, and another one the meet.
func told(t *testing.T, what string, a, b, join, meet api.Graph) {
	t.Helper()
	for is, want := range map[bool]api.Graph{true: join, false: meet} {
		want, e := graph.Normal(want)
		if e != api.OK {
			t.Fatalf("%s: the test's own graph is wrong: %s", what, short(want))
		}
		asked(t, what, a, b, is, func(g api.Graph, e api.Errno) bool { return e == api.OK && equal(g, want) })
	}
}

// toldTexts does so with texts of types.
func toldTexts(t *testing.T, one, other, join, meet string) {
	t.Helper()
	told(t, one+" and "+other, of(t, one), of(t, other), of(t, join), of(t, meet))
}
