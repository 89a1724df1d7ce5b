package graph_test

import (
	"strconv"
	"testing"

	"azimuth/api"
	"azimuth/graph"
)

// throughAnew: the type that isn't a TAlias, for which one stands (chapter 7), step by step.
func throughAnew(x api.Tree, i int) (int, api.Errno) {
	met := map[int]bool{}
	for x.Types[i].Kind == api.TAlias {
		if met[i] {
			return 0, api.ErrLoop
		}
		met[i] = true
		next := -1
		for a := len(x.Aliases) - 1; a >= 0; a-- {
			if x.Aliases[a].Name == x.Types[i].Name {
				next = x.Aliases[a].Type
			}
		}
		if next < 0 {
			return 0, api.ErrName
		}
		i = next
	}
	return i, api.OK
}

// ofAnew: a type's graph, a head for each type that is met, ahead of being made normal.
func ofAnew(x api.Tree, i int) (api.Graph, api.Errno) {
	var g api.Graph
	numbers := map[int]int{}
	var wrong api.Errno
	var head func(i int) int
	head = func(i int) int {
		i, e := throughAnew(x, i)
		if wrong == api.OK {
			wrong = e
		}
		if e != api.OK {
			return -1
		}
		if n, met := numbers[i]; met {
			return n
		}
		n := len(g.L)
		numbers[i] = n
		g.L = append(g.L, api.Head{})
		h := api.Head{Kind: x.Types[i].Kind, Open: x.Types[i].Open}
		for k, kid := range x.Types[i].Kids {
			number := head(kid)
			at := len(h.Kids)
			if h.Kind != api.TFun {
				name := x.Types[i].Names[k]
				for at = 0; at < len(h.Names) && h.Names[at] < name; at++ {
				}
				h.Names = append(h.Names[:at:at], append([]string{name}, h.Names[at:]...)...)
			}
			h.Kids = append(h.Kids[:at:at], append([]int{number}, h.Kids[at:]...)...)
		}
		g.L[n] = h
		return n
	}
	head(i)
	if wrong != api.OK {
		return api.Graph{}, wrong
	}
	return normalAnew(g), api.OK
}

// typesAsAnew looks whether the graph of each type of a tree that may be is as the words say anew.
func typesAsAnew(t *testing.T, x api.Tree) {
	t.Helper()
	for i := range x.Types {
		want, e := ofAnew(x, i)
		if g, f := graph.Of(x, i); f != e || !equal(g, want) {
			t.Errorf("%v: Of %d: %v, %d; it is %v, %d", x, i, short(g), f, short(want), e)
		}
	}
	for _, i := range outside(len(x.Types)) {
		if g, e := graph.Of(x, i); e != api.ErrNone || !equal(g, api.Graph{}) {
			t.Errorf("%v: Of %d: %v, %d", x, i, short(g), e)
		}
	}
}

// P8.1: aliases are looked through: one that is met once, twice, through others, and by ways that come back.
func TestAliases(t *testing.T) {
	for _, one := range [][3]string{
		{"type A = int;", "A", "i;"},
		{"type A = {};", "A", "{;"},
		{"type A = int;", "A -> A", ">1,1,;i;"},
		{"type A = {a: int};", "{b: A, a: A}", "{a:1,b:1,;{a:2,;i;"},
		{"type A = {a: int};", "{b: A, a: {a: int}}", "{a:1,b:1,;{a:2,;i;"},
		{"type A = int; type B = int;", "A -> B", ">1,1,;i;"},
		{"type A = int; type B = bool;", "A -> B", ">1,2,;i;b;"},
		{"type A = int; type B = bool;", "B -> A", ">1,2,;b;i;"},
		// through aliases of aliases, in each order
		{"type A = B; type B = C; type C = bool -> str;", "A", ">1,2,;b;s;"},
		{"type C = bool -> str; type B = C; type A = B;", "A", ">1,2,;b;s;"},
		{"type B = C; type A = B; type C = str;", "{a: A, b: B, c: C}", "{a:1,b:1,c:1,;s;"},
		{"type B = C; type A = B; type C = str;", "{a: C, b: B, c: A}", "{a:1,b:1,c:1,;s;"},
		{"type A = D; type B = D; type C = A; type D = [];", "{a: A, b: B, c: C, d: D}", "{a:1,b:1,c:1,d:1,;[;"},
		// of two with a name the first one counts
		{"type A = int; type A = bool;", "A", "i;"},
		{"type A = int; type A = bool; type A = str;", "[#a A | ..]", "]a:1,;i;"},
		{"type B = A; type A = float; type A = B;", "B", "f;"},
		{"type A = {a: A}; type A = A;", "A", "{a:0,;"},
		// names of which one begins another
		{"type A = int; type AA = bool; type A1 = str; type Ab = dyn;", "{a: A1, b: Ab, c: A, d: AA}", "{a:1,b:2,c:3,d:4,;s;d;i;b;"},
		// that go round: through a record, a function, a variant, and several
		{"type A = {a: A};", "A", "{a:0,;"},
		{"type A = {a: A};", "{a: A}", "{a:0,;"},
		{"type A = {a: A};", "{b: A}", "{b:1,;{a:1,;"},
		{"type A = int -> A;", "A", ">1,0,;i;"},
		{"type A = A -> int;", "A", ">0,1,;i;"},
		{"type A = A -> A;", "A", ">0,0,;"},
		{"type A = [#a A | ..];", "A", "]a:0,;"},
		{"type A = {a: B}; type B = {a: A};", "A", "{a:0,;"},
		{"type A = {a: B}; type B = {b: A};", "A", "{a:1,;{b:0,;"},
		{"type A = {a: B}; type B = {b: A};", "B", "{b:1,;{a:0,;"},
		{"type A = B; type B = {a: C}; type C = A;", "C", "{a:0,;"},
		{"type A = int -> B; type B = int -> A;", "B", ">1,0,;i;"},
		{"type A = int -> B; type B = bool -> A;", "B", ">1,2,;b;>3,0,;i;"},
		{"type A = {a: int -> [#b A]};", "A", "{a:1,;>2,3,;i;[b:0,;"},
		{"type List = [#nil {} | #cons {head: int, tail: List}];", "List", "[cons:1,nil:2,;{head:3,tail:0,;{;i;"},
		{"type List = [#nil {} | #cons {head: int, tail: Other}]; type Other = [#cons {tail: List, head: int} | #nil {}];",
			"List -> Other", ">1,1,;[cons:2,nil:3,;{head:4,tail:1,;{;i;"},
		{"type A = {a: B, b: A}; type B = {a: A, b: B};", "A", "{a:0,b:0,;"},
		// what is wrong with aliases that aren't met is nothing to it
		{"type A = A;", "int", "i;"},
		{"type A = B;", "{a: int}", "{a:1,;i;"},
		{"type A = int; type B = A; type C = D; type E = E;", "B", "i;"},
	} {
		if s := written(t, of(t, one[0], one[1])); s != one[2] {
			t.Errorf("%q, %q: %q; it is %q", one[0], one[1], s, one[2])
		}
		x, _ := under(t, one[0], one[1])
		typesAsAnew(t, x)
		// The same, its types some term's only as if.
		x.Nodes = nil
		typesAsAnew(t, x)
	}
}

// refusedOf looks whether a type has no graph, for one reason, with terms and without.
func refusedOf(t *testing.T, aliases, text string, want api.Errno) {
	t.Helper()
	x, i := under(t, aliases, text)
	for range 2 {
		if g, e := graph.Of(x, i); e != want || !equal(g, api.Graph{}) {
			t.Errorf("%q, %q: %v, %d; it is %d", aliases, text, short(g), e, want)
		}
		x.Nodes = nil
	}
}

// P8.1: an alias without a name in the tree, and one that loops, by themselves and within types of each kind.
func TestWrongAliases(t *testing.T) {
	within := []func(s string) string{
		func(s string) string { return s },
		func(s string) string { return "int -> " + s },
		func(s string) string { return s + " -> int" },
		func(s string) string { return "{a: " + s + "}" },
		func(s string) string { return "{b: int, a: " + s + "}" },
		func(s string) string { return "{a: int, b: " + s + ", c: bool}" },
		func(s string) string { return "[#a " + s + "]" },
		func(s string) string { return "[#a int | #b " + s + " | ..]" },
		func(s string) string { return "{a: {a: {a: int -> [#b " + s + "]}}}" },
		func(s string) string { return s + " -> " + s },
	}
	for _, one := range []struct {
		aliases, alias string
		want           api.Errno
	}{
		{"", "A", api.ErrName},
		{"type A = int;", "B", api.ErrName},
		{"type A = int;", "AA", api.ErrName},
		{"type AA = int;", "A", api.ErrName},
		{"type A = B;", "A", api.ErrName},
		{"type A = B; type B = C;", "A", api.ErrName},
		{"type B = C; type A = B;", "A", api.ErrName},
		{"type A = {a: B};", "A", api.ErrName},
		{"type A = {a: A, b: B};", "A", api.ErrName},
		{"type A = {b: B, a: A};", "A", api.ErrName},
		{"type A = B; type A = int;", "A", api.ErrName},
		{"type A = A;", "A", api.ErrLoop},
		{"type A = B; type B = A;", "A", api.ErrLoop},
		{"type A = B; type B = A;", "B", api.ErrLoop},
		{"type A = B; type B = C; type C = A;", "B", api.ErrLoop},
		{"type A = B; type B = B;", "A", api.ErrLoop},
		{"type A = B; type B = C; type C = B; type D = int;", "A", api.ErrLoop},
		{"type A = A; type A = int;", "A", api.ErrLoop},
		{"type A = {a: A, b: B}; type B = B;", "A", api.ErrLoop},
		{"type A = int -> B; type B = C; type C = B;", "A", api.ErrLoop},
	} {
		for _, in := range within {
			refusedOf(t, one.aliases, in(one.alias), one.want)
			refusedOf(t, one.aliases+" type Z = "+in(one.alias)+";", "Z", one.want)
			refusedOf(t, "type Z = "+in(one.alias)+"; "+one.aliases, "{z: Z}", one.want)
		}
	}
}

// P8.1: of two wrong aliases the first that is met, kid by kid, is told.
func TestFirstWrongAlias(t *testing.T) {
	// X has no alias, L loops.
	const loops = "type L = L; type M = L; type Y = X; type R = {a: R, b: X}; type S = {a: S, b: L}; type T = int;"
	for text, want := range map[string]api.Errno{
		"X -> L":                     api.ErrName,
		"L -> X":                     api.ErrLoop,
		"Y -> M":                     api.ErrName,
		"M -> Y":                     api.ErrLoop,
		"{a: X, b: L}":               api.ErrName,
		"{a: L, b: X}":               api.ErrLoop,
		"[#a X | #b L]":              api.ErrName,
		"[#a L | #b X | ..]":         api.ErrLoop,
		"{a: int, b: T, c: X, d: L}": api.ErrName,
		"{a: int, b: T, c: L, d: X}": api.ErrLoop,
		"int -> X -> L":              api.ErrName,
		"int -> L -> X":              api.ErrLoop,
		"{a: {a: X, b: L}}":          api.ErrName,
		"{a: {a: L, b: X}}":          api.ErrLoop,
		"R -> L":                     api.ErrName,
		"S -> X":                     api.ErrLoop,
	} {
		refusedOf(t, loops, text, want)
	}
}

// P8.1: kid by kid: each with all that stands in it ahead of the next one.
func TestFirstWrongAliasWithin(t *testing.T) {
	const loops = "type L = L; type R = {a: {a: X}}; type S = {a: {a: L}}; type P = R; type Q = S;"
	for text, want := range map[string]api.Errno{
		"(int -> X) -> L":         api.ErrName,
		"(int -> L) -> X":         api.ErrLoop,
		"{a: {a: X}, b: L}":       api.ErrName,
		"{a: {a: L}, b: X}":       api.ErrLoop,
		"[#a {b: {c: X}} | #b L]": api.ErrName,
		"[#a {b: {c: L}} | #b X]": api.ErrLoop,
		"R -> L":                  api.ErrName,
		"S -> X":                  api.ErrLoop,
		"P -> L":                  api.ErrName,
		"Q -> X":                  api.ErrLoop,
		"{a: R, b: S}":            api.ErrName,
		"{a: S, b: R}":            api.ErrLoop,
	} {
		refusedOf(t, loops, text, want)
	}
}

// P8.1: kid by kid, as they are written, which may be another order than that of their names.
func TestFirstWrongAliasAsWritten(t *testing.T) {
	for text, want := range map[string]api.Errno{
		"{b: X, a: L}":              api.ErrName,
		"{b: L, a: X}":              api.ErrLoop,
		"[#b X | #a L | ..]":        api.ErrName,
		"[#b L | #a X]":             api.ErrLoop,
		"{c: int, b: {z: X}, a: L}": api.ErrName,
		"{c: int, b: {z: L}, a: X}": api.ErrLoop,
	} {
		refusedOf(t, "type L = L;", text, want)
	}
}

// P8.1: rows of aliases as long as may be, each of them met, from the first, from the last, and from none that the others lead to.
func TestManyAliases(t *testing.T) {
	const n = 30000
	name := func(i int) string { return "A" + strconv.Itoa(i) }
	row := func(end api.TypeNode) api.Tree {
		x := api.Tree{Types: []api.TypeNode{end}, Aliases: []api.Alias{{Name: name(0), Type: 0}}}
		for i := 1; i < n; i++ {
			x.Types = append(x.Types, api.TypeNode{Kind: api.TAlias, Name: name(i - 1)})
			x.Aliases = append(x.Aliases, api.Alias{Name: name(i), Type: i})
		}
		return x
	}
	for what, at := range map[string]func(i int) int{
		"from the first": func(i int) int { return i },
		"from the last":  func(i int) int { return n - 1 - i },
		"here and there": func(i int) int { return i * 7919 % n },
	} {
		x := row(api.TypeNode{Kind: api.TStr})
		root := api.TypeNode{Kind: api.TRecord}
		for i := range n {
			root.Kids = append(root.Kids, len(x.Types))
			root.Names = append(root.Names, "k"+strconv.Itoa(i))
			x.Types = append(x.Types, api.TypeNode{Kind: api.TAlias, Name: name(at(i))})
		}
		x.Types = append(x.Types, root)
		g, e := graph.Of(x, len(x.Types)-1)
		if e != api.OK || len(g.L) != 2 || len(g.L[0].Kids) != n || !equalHeads(g.L[1], api.Head{Kind: api.TStr}) {
			t.Errorf("%s: %s, %d", what, short(g), e)
		}
		for end, want := range map[string]api.Errno{"B": api.ErrName, name(0): api.ErrLoop, name(n - 1): api.ErrLoop, name(n / 2): api.ErrLoop} {
			x.Types[0] = api.TypeNode{Kind: api.TAlias, Name: end}
			if g, e := graph.Of(x, len(x.Types)-1); e != want || !equal(g, api.Graph{}) {
				t.Errorf("%s, at the end %s: %s, %d", what, end, short(g), e)
			}
		}
	}
	// The longest row: as many as there may be types.
	x := api.Tree{}
	for i := range api.MaxNodes {
		x.Types = append(x.Types, api.TypeNode{Kind: api.TAlias, Name: name(i + 1)})
		x.Aliases = append(x.Aliases, api.Alias{Name: name(i), Type: i})
	}
	last := api.MaxNodes - 1
	if g, e := graph.Of(x, 0); e != api.ErrName || !equal(g, api.Graph{}) {
		t.Error(short(g), e)
	}
	x.Types[last].Name = name(0)
	if g, e := graph.Of(x, 0); e != api.ErrLoop || !equal(g, api.Graph{}) {
		t.Error(short(g), e)
	}
	x.Types[last] = api.TypeNode{Kind: api.TVariant, Open: true}
	if g, e := graph.Of(x, 0); e != api.OK || written(t, g) != "];" {
		t.Error(short(g), e)
	}
}
