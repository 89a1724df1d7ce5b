package alike_test

import (
	"math/rand"
	"testing"

	"azimuth/alike"
	"azimuth/api"
	"azimuth/below"
	"azimuth/graph"
)

// within: types made of others, in each way: functions, records and variants of none, of one, of both names.
func within(l []api.Graph) []api.Graph {
	// part puts a type's heads behind those of another graph.
	part := func(g *api.Graph, x api.Graph) int {
		first := len(g.L)
		for _, h := range cloned(x).L {
			for k := range h.Kids {
				h.Kids[k] += first
			}
			g.L = append(g.L, h)
		}
		return first + x.Root
	}
	var all []api.Graph
	add := func(h api.Head, kids ...api.Graph) {
		g := api.Graph{L: []api.Head{{}}}
		for _, x := range kids {
			h.Kids = append(h.Kids, part(&g, x))
		}
		g.L[0] = h
		all = append(all, g)
	}
	for _, h := range []api.Head{{Kind: api.TRecord}, {Kind: api.TVariant}, {Kind: api.TVariant, Open: true}} {
		add(h)
		for _, a := range l {
			for _, name := range []string{"a", "b"} {
				h.Names = []string{name}
				add(h, a)
			}
			for _, b := range l {
				h.Names = []string{"a", "b"}
				add(h, a, b)
			}
		}
	}
	for _, a := range l {
		for _, b := range l {
			add(api.Head{Kind: api.TFun}, a, b)
		}
	}
	return all
}

// without: has a graph no head that is of a kind, nor an open variant?
func without(g api.Graph, kinds ...int) bool {
	n, e := graph.Normal(g)
	if e != api.OK {
		return false
	}
	for _, h := range n.L {
		for _, kind := range kinds {
			if h.Kind == kind || h.Open {
				return false
			}
		}
	}
	return true
}

// promised looks whether what P10.2 says of two types holds, and counts those of which it says something.
func promised(t *testing.T, a, b api.Graph) (n int) {
	t.Helper()
	if without(a, api.TAny) && without(b, api.TAny) && below.Below(a, b) {
		n++
		if !alike.May(a, b) {
			t.Errorf("%s is below %s, but no cast may be", short(a), short(b))
		}
	}
	if without(a, api.TAny, api.TNone) {
		n++
		dynTold(t, "without any, none and open ones", a, true, true)
	}
	return n
}

// P10.2: all types of two heads one in another, of a few kinds.
func TestPromised(t *testing.T) {
	var l []api.Graph
	for _, kind := range []int{api.TInt, api.TDyn, api.TAny, api.TNone} {
		l = append(l, graph.Basic(kind))
	}
	l = append(l, within(l)...)
	n, casts, left := 0, 0, counts{}
	for _, a := range l {
		left[[2]bool{alike.ToDyn(a), alike.FromDyn(a)}]++
		for _, b := range l {
			there, back := asAnew(t, "types within types", a, b)
			n += promised(t, a, b)
			if there && !below.Below(a, b) {
				casts++
			}
			if back != alike.May(b, a) {
				t.Error("the test's own words are wrong")
			}
		}
	}
	if len(l) != 4+3*(1+8+16)+16 || n < 1500 || casts < 1000 {
		t.Error(len(l), n, casts)
	}
	left.look(t, 1)
}

// P10.2: types of types, by chance: without any and open ones, with none of them.
func TestPromisedByChance(t *testing.T) {
	n := 0
	for i := range 20 {
		chance := rand.New(rand.NewSource(int64(i)))
		l := []api.Graph{graph.Basic(api.TInt), graph.Basic(api.TNone), graph.Basic(api.TDyn)}
		for range 3 {
			all := within(l)
			for range 15 {
				if g := all[chance.Intn(len(all))]; without(g, api.TAny) {
					l = append(l, g)
				}
			}
		}
		for _, a := range l {
			for _, b := range l {
				n += promised(t, a, b)
			}
		}
	}
	if n < 5000 {
		t.Error(n)
	}
}

// plain: a graph in which what P10.2 leaves out is something else.
func plain(g api.Graph, none bool) api.Graph {
	g = cloned(g)
	for i, h := range g.L {
		g.L[i].Open = false
		if h.Kind == api.TAny || h.Kind == api.TNone && none {
			g.L[i].Kind = api.TStr
		}
	}
	return g
}

// P10.2: types with rounds, each made of one ahead by a few changes.
func TestPromisedRounds(t *testing.T) {
	n, all := 0, counts{}
	for i := range 20 {
		chance := rand.New(rand.NewSource(int64(i)))
		l := []api.Graph{plain(anyGraph(chance), i%2 == 0)}
		for len(l) < 30 {
			l = append(l, plain(nearly(chance, l[chance.Intn(len(l))]), i%2 == 0))
		}
		for _, a := range l {
			for _, b := range l {
				n += promised(t, a, b)
				all[[2]bool{below.Below(a, b), alike.May(a, b)}]++
			}
		}
	}
	if n < 10000 || all[[2]bool{true, false}] > 0 || all[[2]bool{false, true}] < 2000 || all[[2]bool{false, false}] < 2000 {
		t.Error(n, all)
	}
}

// P10.2: what it leaves out: types with any, none, or an open variant, of which a cast from dyn or to it may be or mayn't.
func TestLeftOut(t *testing.T) {
	for _, x := range []struct {
		text     string
		to, from bool
	}{
		{"any", false, true}, {"none", true, true}, {"[..]", false, true},
		{"any -> int", true, false}, {"none -> int", true, true}, {"[..] -> int", true, false},
		{"{a: any}", false, true}, {"{a: none}", true, true}, {"{a: [..]}", false, true},
		{"[#a any]", false, true}, {"[#a none]", true, true}, {"[#a [..]]", false, true},
	} {
		dynTold(t, x.text, of(t, x.text), x.to, x.from)
	}
	// Of types that are below others, with heads any and open ones, too.
	for _, x := range [][2]string{
		{"int", "any"}, {"any -> int", "int -> any"}, {"{a: any, b: int}", "{a: any}"}, {"[#a any]", "[#a any | ..]"}, {"[#a any | ..]", "[..]"}, {"[..]", "[#a any | ..]"}, {"[..] -> int", "[] -> any"},
	} {
		a, b := of(t, x[0]), of(t, x[1])
		if !below.Below(a, b) || !alike.May(a, b) {
			t.Errorf("%s and %s", x[0], x[1])
		}
	}
}
