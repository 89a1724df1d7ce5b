package below_test

import (
	"fmt"
	"math/rand"
	"testing"

	"azimuth/api"
	"azimuth/below"
	"azimuth/graph"
)

// within: types made of others, in each way: functions, records and variants of none, of one, of both names.
func within(l []api.Graph) []api.Graph {
	// part puts a type's heads behind those of another graph.
	part := func(g *api.Graph, x api.Graph) int {
		first := len(g.L)
		for _, h := range cloned(x).L {
			for k := range h.Kids {
				h.Kids[k] += first
			}
			g.L = append(g.L, h)
		}
		return first + x.Root
	}
	var all []api.Graph
	add := func(h api.Head, kids ...api.Graph) {
		g := api.Graph{L: []api.Head{{}}}
		for _, x := range kids {
			h.Kids = append(h.Kids, part(&g, x))
		}
		g.L[0] = h
		all = append(all, g)
	}
	for _, h := range []api.Head{{Kind: api.TRecord}, {Kind: api.TVariant}, {Kind: api.TVariant, Open: true}} {
		add(h)
		for _, a := range l {
			for _, name := range []string{"a", "b"} {
				h.Names = []string{name}
				add(h, a)
			}
			for _, b := range l {
				h.Names = []string{"a", "b"}
				add(h, a, b)
			}
		}
	}
	for _, a := range l {
		for _, b := range l {
			add(api.Head{Kind: api.TFun}, a, b)
		}
	}
	return all
}

// inOrder looks whether each of a row is below itself, and what is below what is below a third below that.
func inOrder(t *testing.T, l []api.Graph) (chains int) {
	t.Helper()
	table := below.Table(l)
	for i, row := range table {
		if !row[i] {
			t.Errorf("%s isn't below itself", short(l[i]))
		}
		for j, there := range row {
			for k, further := range table[j] {
				if there && further && !row[k] {
					t.Errorf("%s is below %s, that below %s, but not the first below the last", short(l[i]), short(l[j]), short(l[k]))
				}
				if there && further && i != j && j != k && !table[j][i] && !table[k][j] {
					chains++
				}
			}
			if below.Equal(l[i], l[j]) != (there && table[j][i]) {
				t.Errorf("%s and %s: Equal isn't as Table tells", short(l[i]), short(l[j]))
			}
			if graph.Same(l[i], l[j]) && !there {
				t.Errorf("%s isn't below %s, which means the same", short(l[i]), short(l[j]))
			}
		}
	}
	return chains
}

// P9.2: all types of two heads one in another, of a few kinds; each is below itself, and what is below what is below a third is below that.
func TestOrder(t *testing.T) {
	var l []api.Graph
	for _, kind := range []int{api.TInt, api.TDyn, api.TAny, api.TNone} {
		l = append(l, graph.Basic(kind))
	}
	l = append(l, within(l)...)
	if chains := inOrder(t, l); len(l) != 4+3*(1+8+16)+16 || chains < 1000 {
		t.Error(len(l), chains)
	}
	for i, a := range l {
		for j, b := range l {
			if there := below.Below(a, b); there != belowAnew(a, b) {
				t.Errorf("%d, %d: %s and %s: %v", i, j, short(a), short(b), there)
			}
		}
	}
}

// P9.2: types of types, some of them, by chance.
func TestOrderOfMany(t *testing.T) {
	chains := 0
	for i := range 5 {
		chance := rand.New(rand.NewSource(int64(i)))
		l := []api.Graph{graph.Basic(api.TInt), graph.Basic(api.TAny), graph.Basic(api.TNone)}
		for range 2 {
			all := within(l)
			for range 9 {
				l = append(l, all[chance.Intn(len(all))])
			}
		}
		all := within(l)
		for range 60 {
			l = append(l, all[chance.Intn(len(all))])
		}
		chains += inOrder(t, l)
	}
	if chains < 1500 {
		t.Error(chains)
	}
}

// P9.2: types with rounds, each made of one ahead by a few changes.
func TestOrderOfRounds(t *testing.T) {
	chains := 0
	for i := range 25 {
		chance := rand.New(rand.NewSource(int64(i)))
		l := []api.Graph{anyGraph(chance)}
		for len(l) < 40 {
			l = append(l, nearly(chance, l[chance.Intn(len(l))]))
		}
		chains += inOrder(t, l)
	}
	if chains < 5000 {
		t.Error(chains)
	}
}

// P9.2: a row of types, each below the next one, in which no two are equal, so that all that is told of two is told by where they stand.
func TestChain(t *testing.T) {
	var l []api.Graph
	for i := range 30 {
		// Records of fewer and fewer names, in functions that turn twice.
		h := made(0, "> 1 2", "> 3 2", "*", "{")
		for k := i; k < 30; k++ {
			h.L[3].Names, h.L[3].Kids = append(h.L[3].Names, fmt.Sprintf("k%02d", k)), append(h.L[3].Kids, []int{0, 2, 3}[k%3])
		}
		l = append(l, h)
	}
	for i, row := range below.Table(l) {
		for j, there := range row {
			if there != (i <= j) {
				t.Errorf("%d, %d: %v", i, j, there)
			}
		}
	}
}
