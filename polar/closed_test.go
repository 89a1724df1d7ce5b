package polar_test

import (
	"strconv"
	"testing"

	"azimuth/api"
	"azimuth/arena"
	"azimuth/graph"
	"azimuth/polar"
)

// closed asks for a graph's automaton, and looks whether it is as the words say, and whether it may be.
func closed(t *testing.T, what string, g api.Graph) polar.Auto {
	t.Helper()
	x, e := polar.Closed(g)
	normal, _ := graph.Normal(g)
	if want := closedOfAnew(normal); e != api.OK || !equal(x, want) {
		t.Fatalf("Closed of %s: %s, %d; it is %s", what, short(x), e, short(want))
	}
	if !asked(t, what, x) || len(polar.Reach(x)) != len(x.L) {
		t.Fatalf("Closed of %s: %s may not be", what, short(x))
	}
	// So it is of the graph in an arena, where there are others, too.
	a, _ := arena.New(api.MaxArena)
	a.Var(3)
	a.Graph(graph.Basic(api.TInt))
	i, _ := a.Graph(g)
	if y, e := polar.Of(a, i, 0, api.MaxStates); e != api.OK || !equal(x, y) {
		t.Fatalf("Closed of %s: %s; in an arena it is %s, %d", what, short(x), short(y), e)
	}
	return x
}

// P15.1: graphs' automata: heads that are come to with one sign alone, and with both; any and none of either sign.
func TestClosed(t *testing.T) {
	for _, x := range [][2]string{
		{"int", "+i"},
		{"bool", "+b"},
		{"str", "+s"},
		{"float", "+f"},
		{"dyn", "+d"},
		{"any", "+*"},
		{"none", "+"},
		{"{}", "+{"},
		{"[]", "+["},
		{"[..]", "+]"},
		{"any -> any", "+>1,2 - +*"},
		{"none -> none", "+>1,2 -! +"},
		{"any -> none", "+>1,2 - +"},
		{"none -> any", "+>1,2 -! +*"},
		{"(any -> none) -> {a: any, b: none}", "+>1,2 ->3,4 +{a:3,b:5 +* -! +"},
		{"int -> int", "+>1,2 -i +i"},
		{"int -> str", "+>1,2 -i +s"},
		{"(int -> str) -> int -> str", "+>1,2 ->3,4 +>5,6 +i -s -i +s"},
		{"(int -> int) -> int", "+>1,2 ->2,3 +i -i"},
		{"{a: int, b: int}", "+{a:1,b:1 +i"},
		{"{b: int, a: int -> int}", "+{a:1,b:2 +>3,2 +i -i"},
		{"[#a int | #b str | ..]", "+]a:1,b:2 +i +s"},
		{"[#a int | ..] -> [#a int]", "+>1,2 -]a:3 +[a:4 -i +i"},
		{"type A = A -> A; A", "+>1,0 ->0,1"},
		{"type A = {a: A}; A", "+{a:0"},
		{"type A = {a: A}; A -> A", "+>1,2 -{a:1 +{a:2"},
		{"type A = {a: A}; type B = {a: {a: B}}; A -> B", "+>1,2 -{a:1 +{a:2"},
		{"type A = {a: A, b: B -> int}; type B = [#c A | ..]; A", "+{a:0,b:1 +>2,3 -]c:4 +i -{a:4,b:5 ->6,7 +]c:0 -i"},
	} {
		if is := text(closed(t, x[0], graphOf(t, x[0])), strconv.Itoa); is != x[1] {
			t.Errorf("Closed of %s: %s; it is %s", x[0], is, x[1])
		}
	}
}

// P15.1: of graphs that aren't normal: heads that the root doesn't come to, alike ones, other roots.
func TestClosedNotNormal(t *testing.T) {
	for _, x := range []struct {
		root int
		l    []string
		want string
	}{
		{0, []string{"i", "s"}, "+i"},
		{1, []string{"i", "s"}, "+s"},
		{0, []string{"{a:1,b:2", "i", "i"}, "+{a:1,b:1 +i"},
		{3, []string{"i", "i", "s", ">0,4", ">1,2"}, "+>1,2 -i +>1,3 +s"},
		{2, []string{"{a:1", "{a:0", ">0,1"}, "+>1,2 -{a:1 +{a:2"},
		{0, []string{">1,2", ">2,0", ">0,1"}, "+>1,0 ->0,1"},
		{1, []string{"*", ">2,0", "*", "!"}, "+>1,2 - +*"},
		{1, []string{"!", ">2,0", "!", "*"}, "+>1,2 -! +"},
	} {
		g := api.Graph{Root: x.root}
		for _, text := range x.l {
			g.L = append(g.L, headOf(text))
		}
		if is := text(closed(t, x.want, g), strconv.Itoa); is != x.want {
			t.Errorf("Closed of %v, root %d: %s; it is %s", x.l, x.root, is, x.want)
		}
	}
}

// P15.1, R3: graphs that may not be: ErrForm, and no automaton.
func TestClosedWrong(t *testing.T) {
	many := api.Graph{}
	for range api.MaxStates + 1 {
		many.L = append(many.L, api.Head{Kind: api.TInt})
	}
	for _, g := range []api.Graph{
		{}, {L: []api.Head{}}, {Root: 1}, many,
		{L: []api.Head{{Kind: api.TInt}}, Root: 1},
		{L: []api.Head{{Kind: api.TInt}}, Root: -1},
		{L: []api.Head{{Kind: api.TInt}}, Root: most},
		{L: []api.Head{{Kind: api.TInt}}, Root: least},
		{L: []api.Head{{Kind: api.TAlias}}},
		{L: []api.Head{{Kind: -1}}},
		{L: []api.Head{{Kind: most}}},
		{L: []api.Head{{Kind: api.TInt, Open: true}}},
		{L: []api.Head{{Kind: api.TInt, Kids: []int{0}}}},
		{L: []api.Head{{Kind: api.TFun, Kids: []int{0}}}},
		{L: []api.Head{{Kind: api.TFun, Kids: []int{0, 1}}}},
		{L: []api.Head{{Kind: api.TFun, Kids: []int{-1, 0}}}},
		{L: []api.Head{{Kind: api.TRecord, Names: []string{"a"}}}},
		{L: []api.Head{{Kind: api.TRecord, Names: []string{"b", "a"}, Kids: []int{0, 0}}}},
		{L: []api.Head{{Kind: api.TVariant, Names: []string{"a", "a"}, Kids: []int{0, 0}}}},
		{L: []api.Head{{Kind: api.TRecord, Names: []string{"let"}, Kids: []int{0}}}},
		// where the root doesn't come to it, too
		{L: []api.Head{{Kind: api.TInt}, {Kind: api.TFun}}},
	} {
		if graph.Check(g) != api.ErrForm {
			t.Fatalf("the test's own graph may be: %s", short(g))
		}
		if x, e := polar.Closed(g); e != api.ErrForm || !equal(x, polar.Auto{}) {
			t.Errorf("Closed of %s: %s, %d", short(g), short(x), e)
		}
	}
}

// P15.1: of graphs of as many heads as may be: a state for each, or two; where these are more than MaxStates they stand there all the same, and may not be an automaton.
func TestClosedGreat(t *testing.T) {
	for _, n := range []int{2, 2048, 2049, 4095, 4096} {
		var rows, functions api.Graph
		for i := range n {
			rows.L = append(rows.L, api.Head{Kind: api.TRecord, Names: []string{"a"}, Kids: []int{i + 1}})
			functions.L = append(functions.L, api.Head{Kind: api.TFun, Kids: []int{i + 1, i + 1}})
		}
		rows.L[n-1], functions.L[n-1] = api.Head{Kind: api.TInt}, api.Head{Kind: api.TStr}
		if x := closed(t, "rows", rows); len(x.L) != n || x.L[n-1].Heads[0].Kind != api.TInt {
			t.Error(n, len(x.L))
		}
		x, e := polar.Closed(functions)
		if e != api.OK || !equal(x, closedOfAnew(functions)) || len(x.L) != 2*n-1 {
			t.Error(n, e, len(x.L))
		}
		if may := polar.Check(x) == api.OK; may != (2*n-1 <= api.MaxStates) {
			t.Error(n, may)
		}
	}
	// All heads, each with both signs.
	var g api.Graph
	for i := range api.MaxStates {
		g.L = append(g.L, api.Head{Kind: api.TFun, Kids: []int{(i + 1) % api.MaxStates, (i + 1) % api.MaxStates}})
	}
	g.L[7] = api.Head{Kind: api.TRecord, Names: []string{"a"}, Kids: []int{8}}
	x, e := polar.Closed(g)
	if e != api.OK || !equal(x, closedOfAnew(g)) || len(x.L) != 2*api.MaxStates {
		t.Error(e, len(x.L))
	}
}
