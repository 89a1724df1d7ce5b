package graph_test

import (
	"math/rand"
	"slices"
	"strings"
	"testing"

	"azimuth/api"
	"azimuth/graph"
	"azimuth/parse"
	"azimuth/print"
	"azimuth/tree"
)

// anyGraph: a graph of few kinds of heads, so that many are alike, or nearly.
func anyGraph(chance *rand.Rand) api.Graph {
	n := 1 + chance.Intn(12)
	kinds := 2 + chance.Intn(8)
	g := api.Graph{L: make([]api.Head, n), Root: chance.Intn(n)}
	for i := range g.L {
		h := api.Head{Kind: []int{api.TFun, api.TInt, api.TRecord, api.TVariant, api.TRecord, api.TVariant, api.TStr, api.TFun, api.TAny}[chance.Intn(kinds)]}
		kids := 0
		switch h.Kind {
		case api.TFun:
			kids = 2
		case api.TRecord, api.TVariant:
			for _, name := range []string{"a", "ab", "b"} {
				if chance.Intn(2) == 0 {
					h.Names = append(h.Names, name)
				}
			}
			kids = len(h.Names)
			h.Open = h.Kind == api.TVariant && chance.Intn(2) == 0
		}
		for range kids {
			h.Kids = append(h.Kids, chance.Intn(n))
		}
		g.L[i] = h
	}
	return g
}

// doubled: the same meaning, with copies of some heads, that are kids in the place of some of those, under other numbers.
func doubled(chance *rand.Rand, g api.Graph) api.Graph {
	var first [][]int // of each head its numbers
	var x api.Graph
	for range g.L {
		var l []int
		for range 1 + chance.Intn(3) {
			l = append(l, len(x.L))
			x.L = append(x.L, api.Head{})
		}
		first = append(first, l)
	}
	one := func(i int) int { return first[i][chance.Intn(len(first[i]))] }
	for i, h := range g.L {
		for _, number := range first[i] {
			h.Kids = slices.Clone(h.Kids)
			for k, kid := range g.L[i].Kids {
				h.Kids[k] = one(kid)
			}
			x.L[number] = h
		}
	}
	x.Root = one(g.Root)
	return turned(x, chance.Perm(len(x.L)))
}

// P8.1, P8.2, P8.3: graphs by chance; others that mean the same have the same bytes, those of each two that are unlike are others.
func TestChance(t *testing.T) {
	sizes := map[int]int{}
	var l []api.Graph
	for i := range 4000 {
		chance := rand.New(rand.NewSource(int64(i)))
		g := anyGraph(chance)
		asAnew(t, g)
		want := bytesAnew(g)
		x := doubled(chance, g)
		if s := written(t, x); s != want || !graph.Same(g, x) || !graph.Same(x, g) {
			t.Errorf("%v: %q; it is %q, as of %v", x, s, want, g)
		}
		n, e := graph.Normal(x)
		if m, f := graph.Normal(g); e != api.OK || f != api.OK || !equal(n, m) {
			t.Errorf("%v: %v; it is %v", x, n, m)
		}
		sizes[len(g.L)-len(n.L)]++
		if i < 150 {
			l = append(l, g)
		}
	}
	for less := range 6 {
		if sizes[less] < 50 {
			t.Errorf("of graphs of %d heads more than their normal one there are %d", less, sizes[less])
		}
	}
	// Each two: alike, put beside one another in one graph, just if they are Same.
	same := 0
	for _, g := range l {
		for _, x := range l {
			both := api.Graph{L: slices.Clone(g.L)}
			for _, h := range x.L {
				h.Kids = slices.Clone(h.Kids)
				for k := range h.Kids {
					h.Kids[k] += len(g.L)
				}
				both.L = append(both.L, h)
			}
			alike := alikeAnew(both, g.Root, len(g.L)+x.Root)
			if graph.Same(g, x) != alike || (written(t, g) == written(t, x)) != alike {
				t.Errorf("%v and %v: not %v", g, x, alike)
			}
			if alike {
				same++
			}
		}
	}
	if same < 2*len(l) {
		t.Error(same)
	}
}

// P8.1: graphs that are changed by chance: each may be, or not, as the words say anew.
func TestWrongChance(t *testing.T) {
	may := 0
	for i := range 6000 {
		chance := rand.New(rand.NewSource(int64(i)))
		g := anyGraph(chance)
		number := func() int { return chance.Intn(len(g.L)+2) - 1 }
		for range 1 + chance.Intn(2) {
			h := &g.L[chance.Intn(len(g.L))]
			switch chance.Intn(7) {
			case 0:
				h.Kind = chance.Intn(api.TKinds+2) - 1
			case 1:
				h.Kids = append(h.Kids, number())
			case 2:
				if len(h.Kids) > 0 {
					h.Kids[chance.Intn(len(h.Kids))] = number()
				}
			case 3:
				h.Names = append(h.Names, []string{"a", "b", "c", "ac"}[chance.Intn(4)])
			case 4:
				if len(h.Names) > 0 {
					h.Names[chance.Intn(len(h.Names))] = []string{"a", "b", "aa", "ab"}[chance.Intn(4)]
				}
			case 5:
				h.Open = !h.Open
			case 6:
				g.Root = number()
			}
		}
		asAnew(t, g)
		if graph.Check(g) == api.OK {
			may++
		}
	}
	if may < 500 || may > 5500 {
		t.Error(may)
	}
}

// writer writes types by chance.
type writer struct {
	chance  *rand.Rand
	fuel    int
	aliases string
}

func (w *writer) pick(texts string) string {
	l := strings.Fields(texts)
	return l[w.chance.Intn(len(l))]
}

func (w *writer) typed() string {
	w.fuel--
	if w.fuel <= 0 {
		return w.pick("int int bool {} [..] " + w.aliases)
	}
	switch w.chance.Intn(6) {
	case 0:
		return "(" + w.typed() + " -> " + w.typed() + ")"
	case 1, 2:
		return "{" + w.fields("", ": ", ", ") + "}"
	case 3:
		return "[" + w.fields("#", " ", " | ") + "]"
	case 4:
		return "[" + w.fields("#", " ", " | ") + " | ..]"
	}
	return w.pick("int bool " + w.aliases + w.aliases)
}

func (w *writer) fields(sign, colon, between string) string {
	var l []string
	for _, at := range w.chance.Perm(4)[:1+w.chance.Intn(3)] {
		l = append(l, sign+[]string{"a", "ab", "b", "a0"}[at]+colon+w.typed())
	}
	return strings.Join(l, between)
}

// text: aliases, of which some may be wrong, and a term that is cast from one type to another.
func (w *writer) text() string {
	s := ""
	for _, name := range strings.Fields("A B C D")[w.chance.Intn(5):] {
		if w.chance.Intn(4) == 0 {
			name = w.pick("A B C D E")
		}
		w.fuel = w.chance.Intn(8)
		s += "type " + name + " = " + w.typed() + "; "
	}
	w.fuel = w.chance.Intn(12)
	s += "(x : " + w.typed()
	w.fuel = w.chance.Intn(12)
	return s + " => " + w.typed() + ")"
}

// typesUnder: trees of types by chance, with and without terms, with numbers of types as they are parsed, and with others.
func typesUnder(t *testing.T, seed int, aliases string) []api.Tree {
	t.Helper()
	chance := rand.New(rand.NewSource(int64(seed)))
	w := writer{chance: chance, aliases: aliases}
	text := w.text()
	x, d := parse.Text([]byte(text))
	if d.Error != api.OK {
		t.Fatalf("%q isn't parsed: %v", text, d)
	}
	y := anyNumbers(chance, x)
	if !tree.Same(x, y) {
		t.Fatalf("the test's own tree is wrong: %v", y)
	}
	l := []api.Tree{x, y}
	for _, z := range l {
		z.Nodes = nil
		l = append(l, z)
	}
	return l
}

// anyNumbers: the same tree, its types under other numbers, but kids ahead of what they are kids of.
func anyNumbers(chance *rand.Rand, x api.Tree) api.Tree {
	to := make([]int, len(x.Types))
	done := make([]bool, len(x.Types))
	for next := range x.Types {
		var may []int
		for i, n := range x.Types {
			if !done[i] && !slices.ContainsFunc(n.Kids, func(k int) bool { return !done[k] }) {
				may = append(may, i)
			}
		}
		i := may[chance.Intn(len(may))]
		to[i], done[i] = next, true
	}
	y := tree.Clone(x)
	moved := func(l []int) {
		for k := range l {
			l[k] = to[l[k]]
		}
	}
	types := slices.Clone(y.Types)
	for i, n := range types {
		moved(n.Kids)
		y.Types[to[i]] = n
	}
	for _, n := range y.Nodes {
		moved(n.Types)
	}
	for i, a := range y.Aliases {
		y.Aliases[i].Type = to[a.Type]
	}
	return y
}

// right: are all types' aliases right?
func right(x api.Tree) bool {
	for i := range x.Types {
		if _, e := throughAnew(x, i); e != api.OK {
			return false
		}
	}
	return true
}

// P8.1: types by chance, under aliases that are right: each has its graph.
func TestTypesByChance(t *testing.T) {
	many, rounds := 0, 0
	for i := range 4000 {
		for _, x := range typesUnder(t, i, " A B C D ") {
			if !right(x) {
				continue
			}
			many++
			typesAsAnew(t, x)
			if len(x.Aliases) > 0 && len(x.Nodes) > 0 {
				g, e := graph.Of(x, x.Aliases[0].Type)
				for _, h := range g.L {
					if e == api.OK && slices.Contains(h.Kids, 0) {
						rounds++
						break
					}
				}
			}
		}
	}
	if many < 1000 || rounds < 200 {
		t.Error(many, rounds)
	}
}

// P8.1: types by chance, of which some aliases may be wrong: the first that is met is told.
func TestWrongAliasesByChance(t *testing.T) {
	met := map[api.Errno]int{}
	for i := range 1500 {
		for _, x := range typesUnder(t, i, " A B C D E ") {
			typesAsAnew(t, x)
			for k := range x.Types {
				_, e := graph.Of(x, k)
				met[e]++
			}
		}
	}
	for _, e := range []api.Errno{api.OK, api.ErrName, api.ErrLoop} {
		if met[e] < 500 {
			t.Errorf("%d is there %d times", e, met[e])
		}
	}
}

// P8.1: a type that is printed, and read again, has the same graph.
func TestPrinted(t *testing.T) {
	for i := range 500 {
		chance := rand.New(rand.NewSource(int64(i)))
		w := writer{chance: chance, fuel: 12}
		x := alone(t, w.typed())
		b, e := print.Type(x, len(x.Types)-1)
		if e != api.OK {
			t.Fatal(e)
		}
		g, e := graph.Of(x, len(x.Types)-1)
		if e != api.OK || !graph.Same(g, of(t, "", string(b))) {
			t.Errorf("%s: %v, %d", b, short(g), e)
		}
	}
}
