package lattice_test

import (
	"fmt"
	"math/rand"
	"slices"
	"testing"

	"azimuth/api"
	"azimuth/graph"
	"azimuth/lattice"
)

// anyGraph: a graph of few kinds of heads and few names, so that many meet that are of one kind.
func anyGraph(chance *rand.Rand) api.Graph {
	n := 1 + chance.Intn(8)
	kinds := 3 + chance.Intn(11)
	g := api.Graph{L: make([]api.Head, n), Root: chance.Intn(n)}
	for i := range g.L {
		h := api.Head{Kind: []int{
			api.TFun, api.TRecord, api.TVariant, api.TAny, api.TNone, api.TInt, api.TVariant, api.TRecord, api.TFun, api.TDyn, api.TVariant, api.TStr, api.TBool, api.TFloat,
		}[chance.Intn(kinds)]}
		kids := 0
		switch h.Kind {
		case api.TFun:
			kids = 2
		case api.TRecord, api.TVariant:
			for _, name := range []string{"a", "ab", "b"} {
				if chance.Intn(2) == 0 {
					h.Names = append(h.Names, name)
				}
			}
			kids = len(h.Names)
			h.Open = h.Kind == api.TVariant && chance.Intn(2) == 0
		}
		for range kids {
			h.Kids = append(h.Kids, chance.Intn(n))
		}
		g.L[i] = h
	}
	return g
}

// cloned: a graph that shares nothing with another.
func cloned(g api.Graph) api.Graph {
	g.L = slices.Clone(g.L)
	for i, h := range g.L {
		g.L[i].Names, g.L[i].Kids = slices.Clone(h.Names), slices.Clone(h.Kids)
	}
	return g
}

// nearly: a graph with a change or a few, so that most often one of both is below the other one.
func nearly(chance *rand.Rand, g api.Graph) api.Graph {
	g = cloned(g)
	for range 1 + chance.Intn(3) {
		h := &g.L[chance.Intn(len(g.L))]
		switch chance.Intn(5) {
		case 0:
			h.Open = h.Kind == api.TVariant && !h.Open
		case 1:
			if k := len(h.Names); k > 0 {
				k = chance.Intn(k)
				h.Names, h.Kids = slices.Delete(h.Names, k, k+1), slices.Delete(h.Kids, k, k+1)
			}
		case 2:
			if name := []string{"a", "aa", "ab", "b", "c"}[chance.Intn(5)]; h.Kind > api.TFun && !slices.Contains(h.Names, name) {
				k, _ := slices.BinarySearch(h.Names, name)
				h.Names, h.Kids = slices.Insert(h.Names, k, name), slices.Insert(h.Kids, k, chance.Intn(len(g.L)))
			}
		case 3:
			if k := len(h.Kids); k > 0 {
				h.Kids[chance.Intn(k)] = len(g.L)
				g.L = append(g.L, api.Head{Kind: []int{api.TAny, api.TNone}[chance.Intn(2)]})
			}
		case 4:
			if h.Kind < api.TFun {
				h.Kind = []int{api.TAny, api.TNone}[chance.Intn(2)]
			}
		}
	}
	return g
}

// doubled: the same meaning, with copies of some heads, that are kids in the place of some of those, under other numbers.
func doubled(chance *rand.Rand, g api.Graph) api.Graph {
	var first [][]int // of each head its numbers
	n := 0
	for range g.L {
		var l []int
		for range 1 + chance.Intn(3) {
			l = append(l, n)
			n++
		}
		first = append(first, l)
	}
	to := chance.Perm(n)
	one := func(i int) int { return to[first[i][chance.Intn(len(first[i]))]] }
	x := api.Graph{L: make([]api.Head, n), Root: one(g.Root)}
	for i, h := range g.L {
		for _, number := range first[i] {
			h.Names, h.Kids = slices.Clone(g.L[i].Names), slices.Clone(g.L[i].Kids)
			for k, kid := range h.Kids {
				h.Kids[k] = one(kid)
			}
			x.L[to[number]] = h
		}
	}
	return x
}

// P11.1: graphs by chance, each two of any, and each with one that is nearly the same.
func TestChance(t *testing.T) {
	great, fewer := 0, 0
	for i := range 4000 {
		chance := rand.New(rand.NewSource(int64(i)))
		a, b := anyGraph(chance), anyGraph(chance)
		for _, other := range []api.Graph{b, nearly(chance, a)} {
			joined, met := asAnew(t, "by chance", a, other)
			x, _ := lattice.Join(a, other)
			y, _ := lattice.Meet(a, other)
			if joined > 5 && met > 5 {
				great++
			}
			if len(x.L) < joined && len(y.L) < met {
				fewer++
			}
			if most := 3 * (len(a.L) + 1) * (len(other.L) + 1); joined > most || met > most {
				t.Errorf("%s, %s: %d, %d heads of at most %d", short(a), short(other), joined, met, most)
			}
		}
	}
	if great < 300 || fewer < 500 {
		t.Error(great, fewer)
	}
}

// P11.1, P11.2: what heads mean counts, whatever their numbers, and however many are alike, or beside what the root comes to.
func TestSameMeaning(t *testing.T) {
	for i := range 1000 {
		chance := rand.New(rand.NewSource(int64(i)))
		a := anyGraph(chance)
		b := nearly(chance, a)
		x, y := doubled(chance, a), doubled(chance, b)
		if !graph.Same(a, x) || !graph.Same(b, y) {
			t.Fatal("the test's own graphs are wrong")
		}
		asAnew(t, "as it is", a, b)
		join, _ := lattice.Join(a, b)
		meet, _ := lattice.Meet(a, b)
		told(t, "doubled", x, y, join, meet)
		told(t, "doubled", a, y, join, meet)
		told(t, "doubled", x, b, join, meet)
		told(t, "itself", x, x, a, a)
		told(t, "itself", a, x, a, a)
		told(t, "itself", y, b, b, b)
		for range 3 {
			x.L = append(x.L, api.Head{Kind: api.TFun, Kids: []int{chance.Intn(len(x.L)), chance.Intn(len(x.L))}})
		}
		told(t, "with heads beside", x, y, join, meet)
	}
}

// long: a record, or variant, of some of so many names, its kids one of a few.
func long(chance *rand.Rand, kind int, open bool, most, kids, of int) api.Head {
	h := api.Head{Kind: kind, Open: open}
	for i := range most {
		if chance.Intn(of) == 0 {
			h.Names, h.Kids = append(h.Names, fmt.Sprintf("k%02d", i)), append(h.Kids, chance.Intn(kids))
		}
	}
	return h
}

// P11.1: heads of many names, of which one has few and the other one many, or nearly all of the other's.
func TestLongHeads(t *testing.T) {
	for i := range 3000 {
		chance := rand.New(rand.NewSource(int64(i)))
		head := func() api.Graph {
			kind := api.TRecord + i%2
			open := kind == api.TVariant && chance.Intn(2) == 0
			of := []int{1, 1, 1, 2, 3, 10, 60}[chance.Intn(7)]
			return api.Graph{L: []api.Head{
				long(chance, kind, open, 1+chance.Intn(60), 5, of), {Kind: []int{api.TAny, api.TNone, api.TAny, api.TInt}[chance.Intn(4)]}, {Kind: api.TAny}, {Kind: api.TStr}, {Kind: api.TNone},
			}}
		}
		asAnew(t, "long heads", head(), head())
	}
}

// P11.1: All of rows by chance is what comes of their joins, or their meets, one after another; with one that may not be it is refused.
func TestAllByChance(t *testing.T) {
	met := map[api.Errno]int{}
	for i := range 3000 {
		chance := rand.New(rand.NewSource(int64(i)))
		join := i%2 == 0
		l := []api.Graph{anyGraph(chance)}
		for range chance.Intn(6) {
			l = append(l, nearly(chance, l[chance.Intn(len(l))]))
		}
		whole, _ := graph.Normal(l[0])
		for _, g := range l[1:] {
			w := words{whole, g}
			if join {
				whole, _ = lattice.Join(whole, g)
			} else {
				whole, _ = lattice.Meet(whole, g)
			}
			if !w.means(whole, join) {
				t.Fatalf("%s, %s: %s", short(w.a), short(g), short(whole))
			}
		}
		want := api.OK
		if chance.Intn(6) == 0 {
			l[chance.Intn(len(l))].Root = -1
			whole, want = api.Graph{}, api.ErrForm
		}
		if g, e := lattice.All(l, join); e != want || !equal(g, whole) {
			t.Errorf("%v, join %v: %s, %d; it is %s, %d", l, join, short(g), e, short(whole), want)
		}
		met[want]++
	}
	if met[api.OK] < 1000 || met[api.ErrForm] < 300 {
		t.Error(met)
	}
}
