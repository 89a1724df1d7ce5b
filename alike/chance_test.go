package alike_test

import (
	"fmt"
	"math/rand"
	"slices"
	"testing"

	"azimuth/alike"
	"azimuth/api"
	"azimuth/graph"
)

// anyGraph: a graph of few kinds of heads and few names, so that many casts may be, or nearly.
func anyGraph(chance *rand.Rand) api.Graph {
	n := 1 + chance.Intn(8)
	kinds := 3 + chance.Intn(12)
	g := api.Graph{L: make([]api.Head, n), Root: chance.Intn(n)}
	for i := range g.L {
		h := api.Head{Kind: []int{
			api.TFun, api.TRecord, api.TVariant, api.TDyn, api.TAny, api.TInt, api.TNone, api.TVariant, api.TRecord, api.TFun, api.TDyn, api.TVariant, api.TStr, api.TBool, api.TFloat,
		}[chance.Intn(kinds)]}
		kids := 0
		switch h.Kind {
		case api.TFun:
			kids = 2
		case api.TRecord, api.TVariant:
			for _, name := range []string{"a", "ab", "b"} {
				if chance.Intn(2) == 0 {
					h.Names = append(h.Names, name)
				}
			}
			kids = len(h.Names)
			h.Open = h.Kind == api.TVariant && chance.Intn(2) == 0
		}
		for range kids {
			h.Kids = append(h.Kids, chance.Intn(n))
		}
		g.L[i] = h
	}
	return g
}

// cloned: a graph that shares nothing with another.
func cloned(g api.Graph) api.Graph {
	g.L = slices.Clone(g.L)
	for i, h := range g.L {
		g.L[i].Names, g.L[i].Kids = slices.Clone(h.Names), slices.Clone(h.Kids)
	}
	return g
}

// nearly: a graph with a change or a few, so that most often a cast from one of both to the other one may be.
func nearly(chance *rand.Rand, g api.Graph) api.Graph {
	g = cloned(g)
	for range 1 + chance.Intn(3) {
		h := &g.L[chance.Intn(len(g.L))]
		switch chance.Intn(5) {
		case 0:
			h.Open = h.Kind == api.TVariant && !h.Open
		case 1:
			if k := len(h.Names); k > 0 {
				k = chance.Intn(k)
				h.Names, h.Kids = slices.Delete(h.Names, k, k+1), slices.Delete(h.Kids, k, k+1)
			}
		case 2:
			if name := []string{"a", "aa", "ab", "b", "c"}[chance.Intn(5)]; h.Kind > api.TFun && !slices.Contains(h.Names, name) {
				k, _ := slices.BinarySearch(h.Names, name)
				h.Names, h.Kids = slices.Insert(h.Names, k, name), slices.Insert(h.Kids, k, chance.Intn(len(g.L)))
			}
		case 3:
			if k := len(h.Kids); k > 0 {
				h.Kids[chance.Intn(k)] = len(g.L)
				g.L = append(g.L, api.Head{Kind: []int{api.TAny, api.TNone, api.TDyn}[chance.Intn(3)]})
			}
		case 4:
			if h.Kind < api.TFun {
				h.Kind = []int{api.TAny, api.TNone, api.TDyn}[chance.Intn(3)]
			}
		}
	}
	return g
}

// doubled: the same meaning, with copies of some heads, that are kids in the place of some of those, under other numbers.
func doubled(chance *rand.Rand, g api.Graph) api.Graph {
	var first [][]int // of each head its numbers
	n := 0
	for range g.L {
		var l []int
		for range 1 + chance.Intn(3) {
			l = append(l, n)
			n++
		}
		first = append(first, l)
	}
	to := chance.Perm(n)
	one := func(i int) int { return to[first[i][chance.Intn(len(first[i]))]] }
	x := api.Graph{L: make([]api.Head, n), Root: one(g.Root)}
	for i, h := range g.L {
		for _, number := range first[i] {
			h.Names, h.Kids = slices.Clone(g.L[i].Names), slices.Clone(g.L[i].Kids)
			for k, kid := range h.Kids {
				h.Kids[k] = one(kid)
			}
			x.L[to[number]] = h
		}
	}
	return x
}

// counts of answers, there and back.
type counts map[[2]bool]int

func (c counts) look(t *testing.T, least int) {
	t.Helper()
	for _, answers := range [][2]bool{{false, false}, {false, true}, {true, false}, {true, true}} {
		if c[answers] < least {
			t.Errorf("%v is there %d times", answers, c[answers])
		}
	}
}

// P10.1: graphs by chance, each two of any, and each with one that is nearly the same, and all with dyn.
func TestChance(t *testing.T) {
	two, near, dyn := counts{}, counts{}, counts{}
	for i := range 6000 {
		chance := rand.New(rand.NewSource(int64(i)))
		g := anyGraph(chance)
		there, back := asAnew(t, "any two", g, anyGraph(chance))
		two[[2]bool{there, back}]++
		there, back = asAnew(t, "nearly the same", g, nearly(chance, g))
		near[[2]bool{there, back}]++
		dyn[[2]bool{alike.ToDyn(g), alike.FromDyn(g)}]++
	}
	two.look(t, 200)
	near.look(t, 150)
	dyn.look(t, 50)
}

// P10.1: what heads mean counts, whatever their numbers, and however many are alike.
func TestSameMeaning(t *testing.T) {
	met := counts{}
	for i := range 2000 {
		chance := rand.New(rand.NewSource(int64(i)))
		a := anyGraph(chance)
		b := nearly(chance, a)
		there, back := asAnew(t, "as it is", a, b)
		met[[2]bool{there, back}]++
		x, y := doubled(chance, a), doubled(chance, b)
		if !graph.Same(a, x) || !graph.Same(b, y) {
			t.Fatal("the test's own graphs are wrong")
		}
		told(t, "doubled", x, y, there, back)
		told(t, "doubled", a, y, there, back)
		told(t, "doubled", x, b, there, back)
		told(t, "itself", a, x, true, true)
		told(t, "itself", y, b, true, true)
		told(t, "itself", x, x, true, true)
		dynTold(t, "doubled", x, alike.ToDyn(a), alike.FromDyn(a))
		// Of heads to which the root doesn't come nothing is told.
		for range 3 {
			x.L = append(x.L, api.Head{Kind: api.TFun, Kids: []int{chance.Intn(len(x.L)), chance.Intn(len(x.L))}})
		}
		told(t, "with heads beside", x, y, there, back)
	}
	met.look(t, 70)
}

// long: a record, or variant, of some of so many names, its kids one of a few.
func long(chance *rand.Rand, kind int, open bool, most, kids, of int) api.Head {
	h := api.Head{Kind: kind, Open: open}
	for i := range most {
		if chance.Intn(of) == 0 {
			h.Names, h.Kids = append(h.Names, fmt.Sprintf("k%02d", i)), append(h.Kids, 1+chance.Intn(kids))
		}
	}
	return h
}

// P10.1: heads of many names, of which one has few and the other one many, or nearly all of the other's.
func TestLongHeads(t *testing.T) {
	met := counts{}
	for i := range 4000 {
		chance := rand.New(rand.NewSource(int64(i)))
		head := func() api.Graph {
			kind := api.TRecord + i%2
			open := kind == api.TVariant && chance.Intn(2) == 0
			of := []int{1, 1, 1, 2, 3, 10, 60}[chance.Intn(7)]
			return api.Graph{L: []api.Head{
				long(chance, kind, open, 1+chance.Intn(60), 1, of), {Kind: []int{api.TAny, api.TNone, api.TDyn, api.TInt}[chance.Intn(4)]}, {Kind: api.TAny}, {Kind: api.TStr},
			}}
		}
		a, b := head(), head()
		if chance.Intn(2) == 0 {
			// The other one is this one, less a few names, and with a kid of another kind.
			b = cloned(a)
			for range chance.Intn(3) {
				if k := len(b.L[0].Names); k > 0 {
					k = chance.Intn(k)
					b.L[0].Names, b.L[0].Kids = slices.Delete(b.L[0].Names, k, k+1), slices.Delete(b.L[0].Kids, k, k+1)
				}
			}
			if k := len(b.L[0].Kids); k > 0 {
				b.L[0].Kids[chance.Intn(k)] = 1 + chance.Intn(3)
			}
		}
		there, back := asAnew(t, "long heads", a, b)
		met[[2]bool{there, back}]++
	}
	met.look(t, 200)
}
