package graph_test

import (
	"slices"
	"strings"
	"testing"

	"azimuth/api"
	"azimuth/graph"
	"azimuth/parse"
)

// alone: the tree of a type's text, which has no terms.
func alone(t *testing.T, text string) api.Tree {
	t.Helper()
	x, d := parse.Type([]byte(text))
	if d.Error != api.OK {
		t.Fatalf("%q isn't parsed: %v", text, d)
	}
	return x
}

// under: the tree of aliases and of a term that is ascribed a type, and the number of that type.
func under(t *testing.T, aliases, text string) (api.Tree, int) {
	t.Helper()
	x, d := parse.Text([]byte(aliases + " (x : " + text + ")"))
	if d.Error != api.OK {
		t.Fatalf("%q, %q isn't parsed: %v", aliases, text, d)
	}
	return x, x.Nodes[len(x.Nodes)-1].Types[0]
}

// of: the graph of a type, under aliases.
func of(t *testing.T, aliases, text string) api.Graph {
	t.Helper()
	x, i := under(t, aliases, text)
	g, e := graph.Of(x, i)
	if e != api.OK {
		t.Fatalf("%q, %q: Of: %d", aliases, text, e)
	}
	return g
}

// written: the bytes of a graph that may be.
func written(t *testing.T, g api.Graph) string {
	t.Helper()
	b, e := graph.Bytes(g)
	if e != api.OK {
		t.Fatalf("%v: Bytes: %d", short(g), e)
	}
	return string(b)
}

// P8.1, P8.2: types without aliases, their normal graphs and their bytes.
func TestTypes(t *testing.T) {
	for text, want := range map[string]string{
		"int": "i;", "bool": "b;", "str": "s;", "float": "f;", "dyn": "d;", "any": "*;", "none": "!;",
		"int -> int":                      ">1,1,;i;",
		"int -> bool":                     ">1,2,;i;b;",
		"bool -> int":                     ">1,2,;b;i;",
		"int -> int -> int":               ">1,2,;i;>1,1,;",
		"(int -> int) -> int":             ">1,2,;>2,2,;i;",
		"(int -> int) -> int -> int":      ">1,1,;>2,2,;i;",
		"(int -> bool) -> int -> str":     ">1,2,;>3,4,;>3,5,;i;b;s;",
		"{}":                              "{;",
		"[]":                              "[;",
		"[..]":                            "];",
		"{} -> []":                        ">1,2,;{;[;",
		"[] -> [..]":                      ">1,2,;[;];",
		"{a: int}":                        "{a:1,;i;",
		"[#a int]":                        "[a:1,;i;",
		"[#a int | ..]":                   "]a:1,;i;",
		"{a: int, b: int}":                "{a:1,b:1,;i;",
		"{b: int, a: int}":                "{a:1,b:1,;i;",
		"{b: int, a: bool}":               "{a:1,b:2,;b;i;",
		"{c: int, b: bool, a: str}":       "{a:1,b:2,c:3,;s;b;i;",
		"{b: int, c: bool, a: str}":       "{a:1,b:2,c:3,;s;i;b;",
		"[#b int | #a bool]":              "[a:1,b:2,;b;i;",
		"[#b int | #a bool | ..]":         "]a:1,b:2,;b;i;",
		"[#type int | #a int | #in {}]":   "[a:1,in:2,type:1,;i;{;",
		"{b: int, a: [#c {} | ..]}":       "{a:1,b:2,;]c:3,;i;{;",
		"{a: {a: {a: {}}}}":               "{a:1,;{a:2,;{a:3,;{;",
		"{a: {a: int}, b: {a: int}}":      "{a:1,b:1,;{a:2,;i;",
		"{a: {a: int}, b: {a: bool}}":     "{a:1,b:2,;{a:3,;{a:4,;i;b;",
		"{a: {a: int}, b: {b: int}}":      "{a:1,b:2,;{a:3,;{b:3,;i;",
		"{a: [#a int], b: {a: int}}":      "{a:1,b:2,;[a:3,;{a:3,;i;",
		"{a: [#a int], b: [#a int | ..]}": "{a:1,b:2,;[a:3,;]a:3,;i;",
		"{a: [], b: {}, c: [..]}":         "{a:1,b:2,c:3,;[;{;];",
		// names of which one begins another, and the signs that may stand in them, byte by byte
		"{ab: int, a: bool}": "{a:1,ab:2,;b;i;",
		"{a_: int, a0: bool, a: str, aa: {}, _: [], a00: dyn}": "{_:1,a:2,a0:3,a00:4,a_:5,aa:6,;[;s;b;d;i;{;",
		"{b: int, ab: bool}":                   "{ab:1,b:2,;b;i;",
		"{_: int, z: bool, a9: str, a10: any}": "{_:1,a10:2,a9:3,z:4,;i;*;s;b;",
	} {
		g := of(t, "", text)
		if s := written(t, g); s != want {
			t.Errorf("%q: %q; it is %q", text, s, want)
		}
		asAnew(t, g)
		if x, e := graph.Parse([]byte(want)); e != api.OK || !equal(x, g) {
			t.Errorf("%q: Of: %v; Parse of its bytes: %v, %d", text, short(g), short(x), e)
		}
		x := alone(t, text)
		if y, e := graph.Of(x, len(x.Types)-1); e != api.OK || !equal(g, y) {
			t.Errorf("%q, without terms: %v, %d", text, short(y), e)
		}
	}
}

// P8.1: the heads of a type, as they are told, their names rising, the kids with them.
func TestHeads(t *testing.T) {
	g := of(t, "", "{c: int, a: [#d {} | #b int | ..], b: bool -> int}")
	want := api.Graph{L: []api.Head{
		{Kind: api.TRecord, Names: []string{"a", "b", "c"}, Kids: []int{1, 2, 3}},
		{Kind: api.TVariant, Names: []string{"b", "d"}, Kids: []int{3, 4}, Open: true},
		{Kind: api.TFun, Kids: []int{5, 3}},
		{Kind: api.TInt}, {Kind: api.TRecord}, {Kind: api.TBool},
	}}
	if !equal(g, want) {
		t.Errorf("%v; it is %v", g, want)
	}
}

// P8.1, P8.2: kids get their numbers when they are met first, those of the head with the least number first.
func TestNumbers(t *testing.T) {
	for _, one := range []struct {
		of   api.Graph
		want string
	}{
		// row by row, not each kid with all in it first
		{made(0, "> 1 2", "> 3 4", "> 5 6", "i", "b", "s", "f"), ">1,2,;>3,4,;>5,6,;i;b;s;f;"},
		{made(6, "i", "b", "s", "f", "> 0 1", "> 2 3", "> 4 5"), ">1,2,;>3,4,;>5,6,;i;b;s;f;"},
		{made(0, "{ a:1 b:2 c:3", "> 4 5", "i", "> 5 4", "s", "f"), "{a:1,b:2,c:3,;>4,5,;i;>5,4,;s;f;"},
		// a kid that has a number already
		{made(0, "> 0 1", "i"), ">0,1,;i;"},
		{made(0, "> 1 0", "i"), ">1,0,;i;"},
		{made(1, "i", "> 1 0"), ">0,1,;i;"},
		{made(2, "{ a:2 b:0", "i", "> 0 1"), ">1,2,;{a:0,b:1,;i;"},
		{made(0, "> 1 2", "> 2 0", "> 0 1"), ">0,0,;"},
		{made(0, "{ a:1 b:2", "{ a:2 c:0", "{ a:0 d:1"), "{a:1,b:2,;{a:2,c:0,;{a:0,d:1,;"},
		{made(0, "{ a:2 b:1", "{ a:2 c:0", "{ a:0 d:1"), "{a:1,b:2,;{a:0,d:2,;{a:1,c:0,;"},
		{made(1, "{ a:2 b:1", "{ a:2 c:0", "{ a:0 d:1"), "{a:1,c:2,;{a:2,d:0,;{a:1,b:0,;"},
		{made(2, "{ a:2 b:1", "{ a:2 c:0", "{ a:0 d:1"), "{a:1,d:2,;{a:0,b:2,;{a:0,c:1,;"},
		// a head that is a kid of one head twice, and more often
		{made(0, "> 1 1", "b"), ">1,1,;b;"},
		{made(0, "{ a:1 b:2 c:1 d:2", "b", "i"), "{a:1,b:2,c:1,d:2,;b;i;"},
		{made(0, "{ a:1 b:2 c:2 d:1", "b", "b"), "{a:1,b:1,c:1,d:1,;b;"},
	} {
		if s := written(t, one.of); s != one.want {
			t.Errorf("%v: %q; it is %q", one.of, s, one.want)
		}
		asAnew(t, one.of)
	}
}

// P8.1: heads to which the root doesn't come, wherever they stand.
func TestBeside(t *testing.T) {
	for _, one := range []struct {
		of   api.Graph
		want string
	}{
		{made(0, "i", "b"), "i;"},
		{made(1, "i", "b"), "b;"},
		{made(2, "> 2 2", "i", "> 2 2", "{ a:0"), ">0,0,;"},
		{made(1, "> 1 2", "i", "b"), "i;"},
		{made(3, "{ a:3", "{ b:3", "> 3 0", "> 4 5", "s", "f", "> 5 4"), ">1,2,;s;f;"},
		{made(0, "{ a:0", "{ a:2", "{ a:1", "i"), "{a:0,;"},
	} {
		if s := written(t, one.of); s != one.want {
			t.Errorf("%v: %q; it is %q", one.of, s, one.want)
		}
		asAnew(t, one.of)
	}
}

// kinds are the graphs of one head.
func kinds() map[string]api.Graph {
	return map[string]api.Graph{
		"i;": made(0, "i"), "b;": made(0, "b"), "s;": made(0, "s"), "f;": made(0, "f"), "d;": made(0, "d"), "*;": made(0, "*"), "!;": made(0, "!"),
		"{;": made(0, "{"), "[;": made(0, "["), "];": made(0, "]"), ">0,0,;": made(0, "> 0 0"),
		"{a:0,;": made(0, "{ a:0"), "[a:0,;": made(0, "[ a:0"), "]a:0,;": made(0, "] a:0"),
		"{b:0,;": made(0, "{ b:0"), "[in:0,;": made(0, "[ in:0"), "{a:0,b:0,;": made(0, "{ a:0 b:0"), "]a:0,b:0,;": made(0, "] a:0 b:0"),
	}
}

// P8.1, P8.2, P8.3: graphs of one head of each kind, and of one that is its own kid: they may be, are normal, and no two are the same.
func TestOneHead(t *testing.T) {
	for text, g := range kinds() {
		if x, e := graph.Normal(g); e != api.OK || !equal(x, g) {
			t.Errorf("%q: Normal: %v, %d", text, x, e)
		}
		asAnew(t, g)
		for other, x := range kinds() {
			if same := text == other; graph.Same(g, x) != same {
				t.Errorf("%q and %q: not %v", text, other, same)
			}
		}
		if s := written(t, g); s != text {
			t.Errorf("%q: %q", text, s)
		}
	}
}

// round is so many heads, each with the next one as its kid under a name, the last one with the first.
func round(n int, name string, other int) api.Graph {
	g := api.Graph{L: make([]api.Head, n)}
	for i := range g.L {
		g.L[i] = api.Head{Kind: api.TRecord, Names: []string{name}, Kids: []int{(i + 1) % n}}
	}
	if other >= 0 {
		g.L[other].Names = []string{"other"}
	}
	return g
}

// P8.1: rounds of one head and of more, which mean the same, whatever their lengths, and others, in which one head is another.
func TestRounds(t *testing.T) {
	for n := 1; n <= 12; n++ {
		for root := range n {
			g := round(n, "a", -1)
			g.Root = root
			asAnew(t, g)
			if s := written(t, g); s != "{a:0,;" {
				t.Errorf("%d, from %d: %q", n, root, s)
			}
			for m := 1; m <= 12; m++ {
				if !graph.Same(g, round(m, "a", -1)) || graph.Same(g, round(m, "b", -1)) {
					t.Errorf("rounds of %d and of %d", n, m)
				}
				// Of two that have another head at their root each, those are the same that are as long.
				x, y := round(n, "a", 0), round(m, "a", 0)
				if same := n == m; graph.Same(x, y) != same {
					t.Errorf("rounds of %d and of %d with another head: not %v", n, m, same)
				}
			}
			g.L[0].Names = []string{"b"}
			asAnew(t, g)
			if x, e := graph.Normal(g); e != api.OK || len(x.L) != n {
				t.Errorf("%d, from %d, with another head: %v, %d", n, root, x, e)
			}
		}
	}
	// Rounds that come in turns: a, b, a, b.
	for n := 2; n <= 12; n++ {
		g := round(n, "a", -1)
		for i := 0; i < n; i += 2 {
			g.L[i].Names = []string{"b"}
		}
		asAnew(t, g)
		want := n
		if n%2 == 0 {
			want = 2
		}
		if x, e := graph.Normal(g); e != api.OK || len(x.L) != want {
			t.Errorf("%d in turns: %v, %d", n, x, e)
		}
	}
}

// P8.1, P8.2: a way into a round, from outside, is alike to the round, or not.
func TestIntoRounds(t *testing.T) {
	for _, one := range []struct {
		of   api.Graph
		want string
	}{
		{made(0, "{ a:1", "{ a:2", "{ a:1"), "{a:0,;"},
		{made(0, "{ b:1", "{ a:2", "{ a:1"), "{b:1,;{a:1,;"},
		{made(0, "{ a:1", "{ a:2", "{ b:1"), "{a:1,;{a:2,;{b:1,;"},
		{made(0, "{ b:1", "{ a:2", "{ b:1"), "{b:1,;{a:0,;"},
		{made(0, "> 1 2", "> 1 2", "> 2 1"), ">0,0,;"},
		{made(0, "> 1 2", "> 0 3", "i", "i"), ">0,1,;i;"},
		{made(0, "> 1 2", "> 0 3", "i", "b"), ">1,2,;>0,3,;i;b;"},
		{made(0, "> 2 1", "> 3 0", "i", "i"), ">1,0,;i;"},
		{made(0, "> 1 2", "> 3 0", "i", "i"), ">1,2,;>2,0,;i;"},
	} {
		if s := written(t, one.of); s != one.want {
			t.Errorf("%v: %q; it is %q", one.of, s, one.want)
		}
		asAnew(t, one.of)
	}
}

// P8.1: a head that differs from another one only in its kind, in a name, in how many it has, in being open, in one kid, or in their order.
func TestUnlike(t *testing.T) {
	pairs := [][2]string{
		{"{ a:1", "[ a:1"}, {"[ a:1", "] a:1"}, {"{ a:1", "] a:1"}, {"{", "["}, {"[", "]"}, {"{", "]"},
		{"{ a:1", "{ b:1"}, {"[ a:1", "[ b:1"}, {"] a:1", "] b:1"}, {"{ a:1", "{ a:1 b:1"}, {"{ a:1", "{"}, {"[ a:1", "["},
		{"{ a:1", "{ a:2"}, {"[ a:1", "[ a:2"}, {"] a:1", "] a:2"}, {"{ a:1 b:2", "{ a:2 b:1"}, {"{ a:1 b:1", "{ a:1 b:2"}, {"{ a:1 b:1", "{ a:2 b:1"},
		{"> 1 1", "> 1 2"}, {"> 1 1", "> 2 1"}, {"> 1 2", "> 2 1"}, {"> 1 1", "> 2 2"}, {"> 1 1", "i"}, {"> 1 1", "{ a:1 b:1"},
		{"{ a:1 b:1", "{ a:1 c:1"}, {"{ a:1 b:1", "{ b:1 c:1"}, {"{ ab:1", "{ a:1"}, {"{ ab:1 c:1", "{ a:1 bc:1"}, {"[ a:1 in:1", "[ a:1 int:1"},
		{"{ a:1 b:1", "{ a:1 b:3"}, {"> 1 3", "> 1 1"}, {"> 3 1", "> 1 1"}, {"i", "b"}, {"s", "f"}, {"d", "*"}, {"*", "!"}, {"!", "{"},
	}
	for _, p := range pairs {
		x := made(3, p[0], "i", "b", p[0])
		y := made(3, p[0], "i", "b", p[1])
		// Both beside one another, first by themselves, then far within.
		both := made(0, "> 3 4", "i", "b", p[0], p[1])
		if x.L[3].Kids == nil && y.L[3].Kids == nil {
			both.L = append(both.L[:1:1], both.L[3:]...)
			both.L[0].Kids = []int{1, 2}
		}
		if graph.Same(x, y) || graph.Same(y, x) || !graph.Same(x, x) || !graph.Same(y, y) {
			t.Errorf("%q", p)
		}
		for range 4 {
			if n, e := graph.Normal(both); e != api.OK || len(n.L) < 3 || n.L[0].Kids[0] == n.L[0].Kids[1] {
				t.Errorf("%q: %v, %d", p, n, e)
			}
			asAnew(t, both)
			last := len(both.L)
			both.L = append(both.L,
				api.Head{Kind: api.TRecord, Names: []string{"a"}, Kids: []int{both.L[0].Kids[0]}},
				api.Head{Kind: api.TRecord, Names: []string{"a"}, Kids: []int{both.L[0].Kids[1]}})
			both.L[0] = api.Head{Kind: api.TFun, Kids: []int{last, last + 1}}
		}
	}
}

// P8.1, P8.3: names that, written one behind the other with any sign between them, would be the same.
func TestNamesApart(t *testing.T) {
	for _, between := range strings.Split("_0123456789abcdefghijklmnopqrstuvwxyz", "") {
		for _, sign := range []string{"{", "[", "]"} {
			one, other := sign+" a:1 b"+between+"c:1", sign+" a"+between+"b:1 c:1"
			g := made(0, "> 2 3", "i", one, other)
			asAnew(t, g)
			if x, e := graph.Normal(g); e != api.OK || len(x.L) != 4 {
				t.Errorf("%q: %v, %d", between, x, e)
			}
			x, y := made(0, one, "i"), made(0, other, "i")
			if graph.Same(x, y) || written(t, x) == written(t, y) {
				t.Errorf("%q: %v and %v", between, x, y)
			}
			long := made(0, "> 2 3", "i", one, sign+" a"+between+"b"+between+"c:1")
			asAnew(t, long)
			if x, e := graph.Normal(long); e != api.OK || len(x.L) != 4 {
				t.Errorf("%q: %v, %d", between, x, e)
			}
		}
	}
}

// turned: the same graph, its heads under other numbers.
func turned(g api.Graph, to []int) api.Graph {
	x := api.Graph{L: make([]api.Head, len(g.L)), Root: to[g.Root]}
	for i, h := range g.L {
		h.Kids = slices.Clone(h.Kids)
		for k := range h.Kids {
			h.Kids[k] = to[h.Kids[k]]
		}
		x.L[to[i]] = h
	}
	return x
}

// orders: all orders of so many numbers.
func orders(n int) [][]int {
	if n == 0 {
		return [][]int{nil}
	}
	var l [][]int
	for _, o := range orders(n - 1) {
		for at := range n {
			l = append(l, slices.Insert(slices.Clone(o), at, n-1))
		}
	}
	return l
}

// P8.1, P8.3: heads under other numbers, in each order, are the same normal graph, with the same bytes.
func TestOrders(t *testing.T) {
	for _, g := range []api.Graph{
		made(0, "{ a:1 b:2", "> 3 4", "> 4 3", "i", "b"),
		made(0, "{ a:1 b:2", "> 3 1", "> 4 2", "i", "i"),
		made(0, "[ a:1 b:2 c:3", "] a:2", "] a:3", "] a:1", "s"),
		made(0, "> 1 2", "{ a:3", "{ a:4", "{ a:0", "{ a:0"),
		made(0, "> 1 2", "{ a:3", "{ a:4", "{ a:0", "{ b:0"),
		made(0, "{ a:0 b:1", "{ a:1 b:2", "{ a:2 b:3", "{ a:3 b:4", "i"),
	} {
		want := bytesAnew(g)
		x, e := graph.Normal(g)
		for _, o := range orders(len(g.L)) {
			y := turned(g, o)
			if s := written(t, y); s != want {
				t.Errorf("%v: %q; it is %q", y, s, want)
			}
			z, f := graph.Normal(y)
			if e != api.OK || f != api.OK || !equal(x, z) || !graph.Same(g, y) {
				t.Errorf("%v: %v; it is %v", y, z, x)
			}
		}
	}
}

// P8.1: Normal of a normal graph is that graph; its root is 0.
func TestNormalAgain(t *testing.T) {
	g := made(4, "i", "i", "{ a:0 b:1", "{ a:1 b:0", "> 2 3", "b")
	x, e := graph.Normal(g)
	if want := made(0, "> 1 1", "{ a:2 b:2", "i"); e != api.OK || !equal(x, want) {
		t.Errorf("%v, %d; it is %v", x, e, want)
	}
	if y, e := graph.Normal(x); e != api.OK || !equal(x, y) {
		t.Error(y, e)
	}
}

// P8.1: Basic of all kinds, of those that have kids, and of numbers that are none.
func TestBasic(t *testing.T) {
	for kind, sign := range map[int]string{
		api.TInt: "i", api.TBool: "b", api.TStr: "s", api.TFloat: "f", api.TDyn: "d", api.TAny: "*", api.TNone: "!",
	} {
		g := graph.Basic(kind)
		if !equal(g, api.Graph{L: []api.Head{{Kind: kind}}}) || written(t, g) != sign+";" {
			t.Errorf("%d: %v", kind, g)
		}
	}
	for _, kind := range []int{-1, api.TFun, api.TRecord, api.TVariant, api.TAlias, api.TKinds, api.TKinds + 1, 256, -256, most, least} {
		if g := graph.Basic(kind); len(g.L) != 0 || g.Root != 0 || graph.Check(g) != api.ErrForm {
			t.Errorf("%d: %v", kind, g)
		}
	}
}

// P8.1: Same of graphs of unlike meaning, and of those that may not be, on either side.
func TestSame(t *testing.T) {
	a, b := made(0, "> 1 1", "i"), made(2, "i", "i", "> 0 1")
	if !graph.Same(a, b) || !graph.Same(b, a) || graph.Same(a, made(1, "> 1 1", "i")) || graph.Same(a, made(0, "> 1 1", "b")) {
		t.Error(a, b)
	}
	for _, wrong := range []api.Graph{{}, made(0, "> 1 1"), made(2, "> 1 1", "i"), made(0, "> 1 1", "i", "{ a:3")} {
		if graph.Same(a, wrong) || graph.Same(wrong, a) || graph.Same(wrong, wrong) || graph.Same(wrong, api.Graph{}) {
			t.Error(wrong)
		}
	}
}

// P8.1: At of each head, which is numbered as it was handed in.
func TestAt(t *testing.T) {
	g := made(2, "i", "{ a:0 b:3", "> 1 0", "> 3 1", "i", "{ a:4 b:3")
	for i, want := range []string{"i;", "{a:1,b:2,;i;>2,0,;", ">1,2,;{a:2,b:3,;i;>3,1,;", ">0,1,;{a:2,b:0,;i;", "i;", "{a:1,b:2,;i;>2,0,;"} {
		x, e := graph.At(g, i)
		if e != api.OK || x.Root != 0 || written(t, x) != want || bytesAnew(x) != want {
			t.Errorf("%d: %v, %d; it is %q", i, x, e, want)
		}
	}
	for _, i := range outside(len(g.L)) {
		if x, e := graph.At(g, i); e != api.ErrNone || !equal(x, api.Graph{}) {
			t.Errorf("%d: %v, %d", i, x, e)
		}
	}
	if g.Root != 2 {
		t.Error(g)
	}
}

// P8.2: bytes with numbers of one digit and of several.
func TestDigits(t *testing.T) {
	for _, n := range []int{9, 10, 11, 12, 99, 100, 101, 999, 1000, 1001, 4095} {
		// a row of heads, each the next one's kid, and the root beside: none alike
		g := api.Graph{L: make([]api.Head, n+1)}
		var want strings.Builder
		for i := range n {
			g.L[i] = api.Head{Kind: api.TVariant, Names: []string{"k"}, Kids: []int{i + 1}}
			want.WriteString("[k:" + decimal(i+1) + ",;")
		}
		g.L[n] = api.Head{Kind: api.TStr}
		want.WriteString("s;")
		if s := written(t, g); s != want.String() {
			t.Errorf("%d: %.100q", n, s)
		}
		if x, e := graph.Parse([]byte(want.String())); e != api.OK || !equal(x, g) {
			t.Errorf("%d: %v, %d", n, short(x), e)
		}
	}
}

func decimal(n int) string {
	if n < 10 {
		return string(rune('0' + n))
	}
	return decimal(n/10) + string(rune('0'+n%10))
}
