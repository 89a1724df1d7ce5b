package lattice_test

import (
	"math/rand"
	"testing"

	"azimuth/api"
	"azimuth/below"
	"azimuth/graph"
	"azimuth/lattice"
)

// within: types made of others, in each way: functions, records and variants of none, of one, of both names.
func within(l []api.Graph) []api.Graph {
	// part puts a type's heads behind those of another graph.
	part := func(g *api.Graph, x api.Graph) int {
		first := len(g.L)
		for _, h := range cloned(x).L {
			for k := range h.Kids {
				h.Kids[k] += first
			}
			g.L = append(g.L, h)
		}
		return first + x.Root
	}
	var all []api.Graph
	add := func(h api.Head, kids ...api.Graph) {
		g := api.Graph{L: []api.Head{{}}}
		for _, x := range kids {
			h.Kids = append(h.Kids, part(&g, x))
		}
		g.L[0] = h
		all = append(all, g)
	}
	for _, h := range []api.Head{{Kind: api.TRecord}, {Kind: api.TVariant}, {Kind: api.TVariant, Open: true}} {
		add(h)
		for _, a := range l {
			for _, name := range []string{"a", "b"} {
				h.Names = []string{name}
				add(h, a)
			}
			for _, b := range l {
				h.Names = []string{"a", "b"}
				add(h, a, b)
			}
		}
	}
	for _, a := range l {
		for _, b := range l {
			add(api.Head{Kind: api.TFun}, a, b)
		}
	}
	return all
}

// met counts how often a third type was above two of which neither is below the other one, how often below, and how often one of two was below the other one.
type met struct{ above, under, one int }

// pair of types by their numbers in a row, their join and their meet.
type pair struct {
	i, j       int
	join, meet api.Graph
}

// ordered looks whether of each two of a row join and meet are what package below makes them.
func ordered(t *testing.T, l []api.Graph) met {
	t.Helper()
	var n met
	table := below.Table(l)
	for i, a := range l {
		for j, b := range l {
			join, e := lattice.Join(a, b)
			meet, f := lattice.Meet(a, b)
			if e != api.OK || f != api.OK {
				t.Fatalf("%s, %s: %d, %d", short(a), short(b), e, f)
			}
			if !below.Below(a, join) || !below.Below(b, join) || !below.Below(meet, a) || !below.Below(meet, b) {
				t.Errorf("%s, %s: join %s, meet %s", short(a), short(b), short(join), short(meet))
			}
			if table[i][j] {
				n.one++
				if !below.Equal(join, b) || !below.Equal(meet, a) {
					t.Errorf("%s is below %s: join %s, meet %s", short(a), short(b), short(join), short(meet))
				}
			}
			third(t, l, table, pair{i, j, join, meet}, &n)
		}
	}
	return n
}

// third looks whether each third type that both are below is above their join, and each that is below both below their meet.
func third(t *testing.T, l []api.Graph, table [][]bool, p pair, n *met) {
	t.Helper()
	apart := !table[p.i][p.j] && !table[p.j][p.i]
	for k, c := range l {
		if table[p.i][k] && table[p.j][k] {
			if !below.Below(p.join, c) {
				t.Errorf("%s and %s are below %s, their join %s isn't", short(l[p.i]), short(l[p.j]), short(c), short(p.join))
			}
			if apart && c.L[c.Root].Kind != api.TAny {
				n.above++
			}
		}
		if table[k][p.i] && table[k][p.j] {
			if !below.Below(c, p.meet) {
				t.Errorf("%s is below %s and %s, and not below their meet %s", short(c), short(l[p.i]), short(l[p.j]), short(p.meet))
			}
			if apart && c.L[c.Root].Kind != api.TNone {
				n.under++
			}
		}
	}
}

func few(t *testing.T, n met, least int) {
	t.Helper()
	if n.above < least || n.under < least || n.one < least/5 {
		t.Error(n)
	}
}

// P11.2: all types of two heads one in another, of a few kinds.
func TestOrder(t *testing.T) {
	var l []api.Graph
	for _, kind := range []int{api.TInt, api.TDyn, api.TAny, api.TNone} {
		l = append(l, graph.Basic(kind))
	}
	l = append(l, within(l)...)
	few(t, ordered(t, l), 5000)
}

// P11.2: types of types, some of them, by chance.
func TestOrderOfMany(t *testing.T) {
	var all met
	for i := range 3 {
		chance := rand.New(rand.NewSource(int64(i)))
		l := []api.Graph{graph.Basic(api.TInt), graph.Basic(api.TAny), graph.Basic(api.TNone)}
		for range 2 {
			all := within(l)
			for range 9 {
				l = append(l, all[chance.Intn(len(all))])
			}
		}
		made := within(l)
		for range 60 {
			l = append(l, made[chance.Intn(len(made))])
		}
		n := ordered(t, l)
		all.above, all.under, all.one = all.above+n.above, all.under+n.under, all.one+n.one
	}
	few(t, all, 500)
}

// P11.2: types with rounds, each made of one ahead by a few changes.
func TestOrderOfRounds(t *testing.T) {
	var all met
	for i := range 15 {
		chance := rand.New(rand.NewSource(int64(i)))
		l := []api.Graph{anyGraph(chance)}
		for len(l) < 30 {
			l = append(l, nearly(chance, l[chance.Intn(len(l))]))
		}
		n := ordered(t, l)
		all.above, all.under, all.one = all.above+n.above, all.under+n.under, all.one+n.one
	}
	few(t, all, 3000)
}

// P11.2: they hang on no order: of two graphs they are the same ones, of three each order tells types that are equal.
func TestNoOrder(t *testing.T) {
	unlike := 0
	orders := [][]int{{0, 1, 2}, {0, 2, 1}, {1, 0, 2}, {1, 2, 0}, {2, 0, 1}, {2, 1, 0}}
	for i := range 4000 {
		chance := rand.New(rand.NewSource(int64(i)))
		a := anyGraph(chance)
		b := nearly(chance, a)
		l := []api.Graph{a, b, nearly(chance, b)}
		if i%4 == 0 {
			l[2] = anyGraph(chance)
		}
		for _, join := range []bool{true, false} {
			var first api.Graph
			for k, order := range orders {
				g, e := lattice.All([]api.Graph{l[order[0]], l[order[1]], l[order[2]]}, join)
				if k == 0 {
					first = g
				}
				if e != api.OK || !below.Equal(g, first) {
					t.Errorf("%v, order %v, join %v: %s, %d; ahead of it %s", l, order, join, short(g), e, short(first))
				}
			}
			// It doesn't matter either which two are taken first.
			two, e := lattice.All(l[1:], join)
			g, f := lattice.All([]api.Graph{l[0], two}, join)
			if e != api.OK || f != api.OK || !below.Equal(g, first) {
				t.Errorf("%v, join %v: %s, %d, %d", l, join, short(g), e, f)
			}
		}
		if !graph.Same(a, b) {
			unlike++
		}
	}
	if unlike < 1000 {
		t.Error(unlike)
	}
}

// P11.2: of types that are equal what comes is equal, whether they mean the same or not.
func TestEqualTypes(t *testing.T) {
	equals := [][2]string{
		{"[..]", "[#a any | ..]"},
		{"[#b int | ..]", "[#a any | #b int | #c any | ..]"},
		{"{a: [..]} -> [..]", "{a: [#a any | ..]} -> [#b any | ..]"},
		{"[#a [..] | ..]", "[#a [#a any | ..] | #b any | ..]"},
	}
	others := []string{"int", "any", "none", "[]", "[#a int]", "[#a int | #b {}]", "[#a int | ..]", "[#c str | ..]", "[#b int | #d any | ..]", "{a: [#a int]} -> [#b str | ..]", "{} -> []", "[#a [#a int | ..] | #b int]"}
	for _, x := range equals {
		a, b := of(t, x[0]), of(t, x[1])
		if !below.Equal(a, b) || graph.Same(a, b) {
			t.Fatal(x)
		}
		for _, other := range append(others, x[0], x[1]) {
			c := of(t, other)
			for _, join := range []bool{true, false} {
				g, e := lattice.All([]api.Graph{a, c}, join)
				h, f := lattice.All([]api.Graph{b, c}, join)
				if e != api.OK || f != api.OK || !below.Equal(g, h) {
					t.Errorf("%v and %s, join %v: %s, %s", x, other, join, short(g), short(h))
				}
			}
		}
	}
}

// P11.2: of a row each is below the join of all, and the meet of all below each; what all are below, the join is below, too.
func TestAllOrdered(t *testing.T) {
	above, under := 0, 0
	for i := range 1000 {
		chance := rand.New(rand.NewSource(int64(i)))
		l := []api.Graph{anyGraph(chance)}
		for len(l) < 12 {
			l = append(l, nearly(chance, l[chance.Intn(len(l))]))
		}
		some := l[:2+chance.Intn(4)]
		join, e := lattice.All(some, true)
		meet, f := lattice.All(some, false)
		if e != api.OK || f != api.OK {
			t.Fatal(e, f)
		}
		table := below.Table(append([]api.Graph{join, meet}, l...))
		for k := range l {
			above, under = above+reach(t, table, len(some), k, false), under+reach(t, table, len(some), k, true)
			if k < len(some) && !(table[2+k][0] && table[1][2+k]) {
				t.Errorf("%d of %v: join %s, meet %s", k, some, short(join), short(meet))
			}
		}
	}
	if above < 500 || under < 500 {
		t.Error(above, under)
	}
}

// reach: 1, if all of the first ones of a row are below the k-th; the join, which is the first of all, must then be so, too. Turned, it is the other way round, for the meet, the second one.
func reach(t *testing.T, table [][]bool, some, k int, turned bool) int {
	t.Helper()
	for i := range some {
		if turned && !table[2+k][2+i] || !turned && !table[2+i][2+k] {
			return 0
		}
	}
	if turned && !table[2+k][1] || !turned && !table[0][2+k] {
		t.Errorf("type %d, turned %v", k, turned)
	}
	return 1
}
