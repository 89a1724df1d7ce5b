package graph_test

import (
	"fmt"
	"math/rand"
	"slices"
	"strconv"
	"testing"

	"azimuth/api"
	"azimuth/graph"
)

// sizes looks whether a graph may be, and has a normal graph of so many heads, which is its own.
func sizes(t *testing.T, what string, g api.Graph, want int) api.Graph {
	t.Helper()
	if e := graph.Check(g); e != api.OK {
		t.Errorf("%s: Check: %d", what, e)
	}
	n, e := graph.Normal(g)
	if e != api.OK || len(n.L) != want || n.Root != 0 {
		t.Errorf("%s: Normal: %s, %d heads, not %d, %d", what, short(n), len(n.L), want, e)
		return n
	}
	if m, e := graph.Normal(n); e != api.OK || !equal(n, m) {
		t.Errorf("%s: Normal of the normal graph: %s, %d", what, short(m), e)
	}
	b, e := graph.Bytes(g)
	if e != api.OK {
		t.Errorf("%s: Bytes: %d", what, e)
	}
	if m, e := graph.Parse(b); e != api.OK || !equal(n, m) {
		t.Errorf("%s: Parse of the bytes: %s, %d", what, short(m), e)
	}
	if !graph.Same(g, n) {
		t.Errorf("%s: isn't Same as its normal graph", what)
	}
	return n
}

// row: heads, each a record of the next one, the last one of some kind.
func row(n, kind int) api.Graph {
	g := api.Graph{L: make([]api.Head, n)}
	for i := range n - 1 {
		g.L[i] = api.Head{Kind: api.TRecord, Names: []string{"a"}, Kids: []int{i + 1}}
	}
	g.L[n-1].Kind = kind
	return g
}

// P8.1: as many heads as may be, and one more.
func TestMost(t *testing.T) {
	for _, n := range []int{1, 2, 4095, 4096} {
		g := row(n, api.TAny)
		if m := sizes(t, "a row", g, n); !equal(g, m) {
			t.Errorf("a row of %d: %s", n, short(m))
		}
		if x, e := graph.At(g, n-1); e != api.OK || !equal(x, graph.Basic(api.TAny)) {
			t.Errorf("the last of %d: %v, %d", n, x, e)
		}
		if x, e := graph.At(g, n); e != api.ErrNone || !equal(x, api.Graph{}) {
			t.Errorf("behind the last of %d: %v, %d", n, x, e)
		}
		g.Root = n - 1
		sizes(t, "its last head", g, 1)
		g.Root = n / 2
		sizes(t, "its half", g, n-n/2)
		back := make([]int, n)
		for i := range back {
			back[i] = n - 1 - i
		}
		if m := sizes(t, "a row from behind", turned(row(n, api.TAny), back), n); !equal(m, row(n, api.TAny)) {
			t.Errorf("a row of %d from behind: %s", n, short(m))
		}
		sizes(t, "nothing but ints", api.Graph{L: make([]api.Head, n), Root: n - 1}, 1)
		sizes(t, "a round", round(n, "a", -1), 1)
		sizes(t, "a round with another head", round(n, "a", n/2), n)
	}
	for _, n := range []int{4097, 4098, 8192, 100000} {
		refused(t, "a row of "+strconv.Itoa(n), row(n, api.TAny))
		refused(t, "ints, "+strconv.Itoa(n), api.Graph{L: make([]api.Head, n)})
		refused(t, "a round of "+strconv.Itoa(n), round(n, "a", -1))
		refused(t, "a row of "+strconv.Itoa(n)+", from its last head", turned(row(n, api.TAny), rand.New(rand.NewSource(1)).Perm(n)))
	}
}

// P8.1: heads that differ only as far away as may be, in their kind, in a name, in being open; or in nothing.
func TestFarAway(t *testing.T) {
	ends := []api.Head{
		{Kind: api.TInt}, {Kind: api.TBool}, {Kind: api.TVariant}, {Kind: api.TVariant, Open: true}, {Kind: api.TRecord},
		{Kind: api.TRecord, Names: []string{"a"}, Kids: []int{0}}, {Kind: api.TRecord, Names: []string{"b"}, Kids: []int{0}},
		{Kind: api.TVariant, Names: []string{"a"}, Kids: []int{0}}, {Kind: api.TVariant, Names: []string{"a"}, Kids: []int{0}, Open: true},
	}
	const far = 2047
	for i, one := range ends {
		for j, other := range ends[:i+1] {
			g := api.Graph{L: []api.Head{{Kind: api.TFun, Kids: []int{1, 1 + far}}}}
			for _, end := range []api.Head{one, other} {
				r := row(far, api.TInt)
				r.L[far-1] = end
				for _, h := range r.L {
					// The kids of ends are the root, those of the others in their own row.
					if h.Kind == api.TRecord && len(g.L)%far != 0 {
						h.Kids = []int{len(g.L) + 1}
					}
					g.L = append(g.L, h)
				}
			}
			g.L[far], g.L[2*far] = one, other
			want := 1 + 2*far
			if i == j {
				want = 1 + far
			}
			n := sizes(t, fmt.Sprintf("%v and %v far away", one, other), g, want)
			if (n.L[0].Kids[0] == n.L[0].Kids[1]) != (i == j) {
				t.Errorf("%v and %v far away: %s", one, other, short(n))
			}
		}
	}
	// Rows that end alike, but one of which is longer.
	g := row(4096, api.TInt)
	for _, i := range []int{0, 1, 2, 2047, 2048, 4093, 4094} {
		x, e := graph.At(g, i)
		y, f := graph.At(g, i+1)
		if e != api.OK || f != api.OK || graph.Same(x, y) || len(x.L) != 4096-i {
			t.Errorf("%d: %d, %d", i, e, f)
		}
	}
}

// P8.1: rounds of other lengths, that differ from one another only far on, or in nothing.
func TestLongRounds(t *testing.T) {
	for _, n := range []int{2047, 2048} {
		for _, m := range []int{1, 2, 1023, 1024, 2047, 2048} {
			// Every so many heads another one: a round of as many means the same, if all fits.
			g := round(n, "a", -1)
			for i := 0; i < n; i += m {
				g.L[i].Names = []string{"b"}
			}
			want := n
			if n%m == 0 {
				want = m
			}
			sizes(t, fmt.Sprintf("a round of %d, another head every %d", n, m), g, want)
			if x := round(m, "a", 0); n%m == 0 {
				x.L[0].Names = []string{"b"}
				if !graph.Same(g, x) {
					t.Errorf("rounds of %d and %d", n, m)
				}
			}
		}
	}
}

// P8.1: all heads kids of all, none of them alike, or all.
func TestThick(t *testing.T) {
	const n = 300
	var names []string
	for i := range n {
		names = append(names, fmt.Sprintf("k%03d", i))
	}
	all := api.Graph{L: make([]api.Head, n)}
	for i := range n {
		h := api.Head{Kind: api.TRecord, Names: names}
		for k := range n {
			h.Kids = append(h.Kids, (i+k)%n)
		}
		all.L[i] = h
	}
	sizes(t, "all alike", all, 1)
	all.L[7] = api.Head{Kind: api.TInt}
	sizes(t, "but one", all, n)
	chance := rand.New(rand.NewSource(8))
	thick := api.Graph{L: make([]api.Head, 4096)}
	for i := range thick.L {
		h := api.Head{Kind: api.TVariant, Names: names[:60]}
		for range 60 {
			h.Kids = append(h.Kids, chance.Intn(4096))
		}
		thick.L[i] = h
	}
	sizes(t, "all alike", thick, 1)
	thick.L[7].Open = true
	sizes(t, "but one", thick, 4096)
}

// wide is a record of so many names, its kids by turns itself and an int.
func wide(n int) api.Graph {
	h := api.Head{Kind: api.TRecord}
	for i := range n {
		h.Names = append(h.Names, fmt.Sprintf("k%07d", i))
		h.Kids = append(h.Kids, i%2)
	}
	return api.Graph{L: []api.Head{h, {Kind: api.TInt}}}
}

// refusedOnce looks whether a graph may not be, without asking all that refused asks, which takes long of great ones.
func refusedOnce(t *testing.T, what string, g api.Graph) {
	t.Helper()
	if e := graph.Check(g); e != api.ErrForm {
		t.Errorf("%s: Check: %d", what, e)
	}
	if x, e := graph.Normal(g); e != api.ErrForm || !equal(x, api.Graph{}) {
		t.Errorf("%s: Normal: %v, %d", what, short(x), e)
	}
}

// P8.1: a head may have any number of kids; what is wrong with one is told wherever it stands.
func TestWide(t *testing.T) {
	for _, n := range []int{2, 257, 65535, 65536, 131071} {
		g := wide(n)
		sizes(t, "wide", g, 2)
		g.L[0].Kind = api.TVariant
		sizes(t, "wide", g, 2)
		g.L[0].Open = true
		sizes(t, "wide", g, 2)
		g.L[0].Kind = api.TRecord
		refusedOnce(t, "a wide record that is open", g)
		g.L[0].Open = false
		for _, kind := range []int{api.TInt, api.TNone, api.TFun, api.TAlias, api.TKinds, -1} {
			g.L[0].Kind = kind
			refusedOnce(t, "a wide one of another kind", g)
		}
		g.L[0].Kind = api.TRecord
		whole := g.L[0]
		for _, i := range []int{0, 1, n / 2, 65533, 65534, 65535, 65536, n - 2, n - 1} {
			if i >= n {
				continue
			}
			g.L[0].Names, g.L[0].Kids = slices.Clone(whole.Names), slices.Clone(whole.Kids)
			g.L[0].Names[i] += "!"
			refusedOnce(t, "one of many names that is none", g)
			g.L[0].Names[i] = whole.Names[max(i, 1)-1]
			if i > 0 {
				refusedOnce(t, "one of many names twice", g)
			}
			g.L[0].Names[i] = whole.Names[i]
			g.L[0].Kids[i] = 2
			refusedOnce(t, "one of many kids that isn't there", g)
			g.L[0].Kids[i] = -1
			refusedOnce(t, "one of many kids below 0", g)
		}
		g.L[0].Names, g.L[0].Kids = whole.Names, whole.Kids[:n-1]
		refusedOnce(t, "a kid less", g)
		g.L[0].Kids = append(slices.Clone(whole.Kids), 0)
		refusedOnce(t, "a kid more", g)
		g.L[0].Names, g.L[0].Kids = nil, whole.Kids
		refusedOnce(t, "many kids without names", g)
		g.L[0].Names, g.L[0].Kids = whole.Names, nil
		refusedOnce(t, "many names without kids", g)
		g.L[0].Kind, g.L[0].Names, g.L[0].Kids = api.TFun, nil, whole.Kids
		if n > 2 {
			refusedOnce(t, "a TFun of many", g)
		}
	}
}

// grower builds a tree's types from within.
type grower struct{ tree api.Tree }

func (g *grower) typed(n api.TypeNode, kids ...int) int {
	n.Kids = kids
	g.tree.Types = append(g.tree.Types, n)
	return len(g.tree.Types) - 1
}

func (g *grower) basic(kind int) int { return g.typed(api.TypeNode{Kind: kind}) }

func (g *grower) named(name string) int { return g.typed(api.TypeNode{Kind: api.TAlias, Name: name}) }

func (g *grower) record(kids ...int) int {
	var names []string
	for i := range kids {
		names = append(names, fmt.Sprintf("k%05d", i))
	}
	return g.typed(api.TypeNode{Kind: api.TRecord, Names: names}, kids...)
}

func (g *grower) alias(name string, i int) {
	g.tree.Aliases = append(g.tree.Aliases, api.Alias{Name: name, Type: i})
}

// looks whether the graph of a tree's type has so many heads, or, if it would have too many ahead of being made normal, ErrMany is told.
func (g *grower) looks(t *testing.T, what string, i, ahead, want int) {
	t.Helper()
	x, e := graph.Of(g.tree, i)
	switch {
	case ahead > 4096:
		if e != api.ErrMany || !equal(x, api.Graph{}) {
			t.Errorf("%s: of %d heads: %s, %d", what, ahead, short(x), e)
		}
	case e != api.OK || len(x.L) != want:
		t.Errorf("%s: of %d heads: %s, %d heads, not %d, %d", what, ahead, short(x), len(x.L), want, e)
	}
}

// P8.1: types of as many heads as may be ahead of being made normal, and of one more: in a row, beside one another, in functions.
func TestMany(t *testing.T) {
	for _, n := range []int{1, 2, 3, 4094, 4095, 4096, 4097, 4098, 30000, api.MaxNodes} {
		g := &grower{}
		i := g.basic(api.TInt)
		for range n - 1 {
			i = g.record(i)
		}
		g.looks(t, "in a row", i, n, n)
		if n > 2 {
			g.looks(t, "in a row, less the outermost", i-1, n-1, n-1)
			g.looks(t, "the innermost", 0, 1, 1)
		}

		g = &grower{}
		var kids []int
		for range n - 1 {
			kids = append(kids, g.basic(api.TInt))
		}
		g.looks(t, "beside one another", g.record(kids...), n, min(n, 2))

		g = &grower{}
		i = g.basic(api.TStr)
		for range n / 2 {
			i = g.typed(api.TypeNode{Kind: api.TFun}, g.basic(api.TStr), i)
		}
		if n < 60000 {
			g.looks(t, "in functions", i, 1+n/2*2, 1+n/2)
		}

		g = &grower{}
		for range n - 1 {
			g.basic(api.TInt)
		}
		g.looks(t, "others that nothing has", g.basic(api.TAny), 1, 1)
	}
}

// P8.1: an alias that is met twice counts once; one that is met beside another of the same type, twice; one that isn't met, not at all.
func TestManyByAliases(t *testing.T) {
	for _, more := range []int{0, 1, 2, 3} {
		// A has 1001 heads and is met often, by its own name and by another one; B has as many and isn't met.
		g := &grower{}
		for _, name := range []string{"A", "B"} {
			var kids []int
			for range 1000 {
				kids = append(kids, g.basic(api.TInt))
			}
			g.alias(name, g.record(kids...))
		}
		g.alias("C", g.named("A"))
		var kids []int
		for i := range 3000 {
			kids = append(kids, g.named([]string{"A", "C"}[i%2]))
		}
		for range 4096 - 1 - 1001 - 1 + more {
			kids = append(kids, g.basic(api.TInt))
		}
		g.looks(t, "an alias that is met often", g.record(kids...), 4095+more, 3)
		// Met once more, and with it B.
		kids = []int{g.named("A"), g.named("B")}
		for range 4096 - 1 - 2*1001 - 1 + more {
			kids = append(kids, g.basic(api.TInt))
		}
		g.looks(t, "two aliases", g.record(kids...), 4095+more, 3)
	}
	for _, n := range []int{4095, 4096, 4097} {
		// A round of as many aliases.
		g := &grower{}
		for i := range n {
			g.alias("A"+strconv.Itoa(i), g.record(g.named("A"+strconv.Itoa((i+1)%n))))
		}
		g.looks(t, "a round of aliases", 0, n, 1)
		g.looks(t, "a round of aliases", 2*n-2, n, 1)
		g.tree.Types[n/2*2+1].Kind = api.TVariant
		g.looks(t, "a round of aliases, one another", 0, n, n)
	}
}

// P8.1: an alias's type that is asked, and that comes back to its alias, counts once, too.
func TestManyBack(t *testing.T) {
	for _, n := range []int{1, 2, 4095, 4096, 4097} {
		g := &grower{}
		i := g.named("A")
		for range n {
			i = g.record(i)
		}
		g.alias("A", i)
		g.looks(t, "a round by one alias", i, n, 1)
		g.tree.Types[n].Kind = api.TVariant
		g.looks(t, "a round by one alias, one another", i, n, n)
	}
}

// P8.1: a wrong alias is told ahead of too many heads, wherever it is met.
func TestManyAndWrong(t *testing.T) {
	for name, want := range map[string]api.Errno{"X": api.ErrName, "L": api.ErrLoop, "A": api.ErrMany} {
		for _, n := range []int{4095, 4096, 4097, 20000} {
			g := &grower{}
			g.alias("L", g.named("L"))
			g.alias("A", g.basic(api.TInt))
			i := g.named(name)
			for range n {
				i = g.record(i)
			}
			e := want
			if n < 4096 && want == api.ErrMany {
				e = api.OK
			}
			if x, f := graph.Of(g.tree, i); f != e || (e != api.OK) != equal(x, api.Graph{}) {
				t.Errorf("%s behind a row of %d: %s, %d", name, n, short(x), f)
			}
			var kids []int
			for range n {
				kids = append(kids, g.basic(api.TInt))
			}
			kids = append(kids, g.named(name))
			if x, f := graph.Of(g.tree, g.record(kids...)); f != want && (f != api.OK || want != api.ErrMany || n+2 > 4096) {
				t.Errorf("%s behind %d: %s, %d", name, n, short(x), f)
			}
		}
	}
}
