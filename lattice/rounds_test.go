package lattice_test

import (
	"fmt"
	"testing"

	"azimuth/api"
	"azimuth/graph"
)

// P11.1: heads that are their own kids, each with each, and with types without rounds.
func TestOwnKids(t *testing.T) {
	fun, record, closed, open := made(0, "> 0 0"), made(0, "{ a:0"), made(0, "[ a:0"), made(0, "] a:0")
	none, any := graph.Basic(api.TNone), graph.Basic(api.TAny)
	heads := []api.Graph{fun, record, closed, open}
	for i, one := range heads {
		told(t, "itself", one, one, one, one)
		told(t, "none", one, none, one, none)
		told(t, "any", one, any, any, one)
		for j, other := range heads {
			if i != j && i+j != 5 {
				told(t, "own kids", one, other, any, none)
			}
		}
		for _, kind := range []int{api.TInt, api.TBool, api.TStr, api.TFloat, api.TDyn} {
			told(t, "unlike kinds", one, graph.Basic(kind), any, none)
		}
	}
	told(t, "closed and open", closed, open, open, closed)
	for _, x := range []struct {
		one               api.Graph
		other, join, meet string
	}{
		{record, "{}", "{}", "A"},
		{record, "{a: {}}", "{a: {}}", "A"},
		{record, "{a: {a: {b: int}}}", "{a: {a: {}}}", "{a: {a: {a: A, b: int}}}"},
		{record, "{a: any}", "{a: any}", "A"},
		{record, "{a: none}", "A", "{a: none}"},
		{record, "{a: int}", "{a: any}", "{a: none}"},
		{record, "{b: int}", "{}", "{a: A, b: int}"},
		{record, "{a: {a: int}, b: str}", "{a: {a: any}}", "{a: {a: none}, b: str}"},
		{closed, "[]", "C", "[]"},
		{closed, "[#a []]", "C", "[#a []]"},
		{closed, "[#a [#a int]]", "[#a [#a any]]", "[#a [#a none]]"},
		{closed, "[#b int]", "[#a C | #b int]", "[]"},
		{closed, "[#a [#b int | ..] | #b int]", "[#a [#b int | ..] | #b int]", "C"},
		{closed, "[#b int | ..]", "[#b int | ..]", "C"},
		{open, "[..]", "[..]", "O"},
		{open, "[]", "O", "[]"},
		{open, "[#a [] | ..]", "O", "[#a [] | ..]"},
		{open, "[#a [#b int | ..]]", "[#a [..] | ..]", "[#a [#a O | #b int | ..]]"},
		{open, "[#b int | ..]", "[..]", "[#a O | #b int | ..]"},
		{fun, "none -> any", "none -> any", "F"},
		{fun, "any -> none", "F", "any -> none"},
		{fun, "int -> int", "none -> any", "any -> none"},
		{fun, "(any -> none) -> (any -> none)", "(any -> none) -> F", "F -> (any -> none)"},
		{fun, "(none -> any) -> int", "F -> any", "(none -> any) -> none"},
	} {
		const aliases = "type A = {a: A}; type C = [#a C]; type O = [#a O | ..]; type F = F -> F;"
		told(t, x.other, x.one, of(t, x.other), under(t, aliases, x.join), under(t, aliases, x.meet))
	}
}

// P11.1: types under aliases that come back to themselves.
func TestAliases(t *testing.T) {
	const aliases = `type List = [#nil {} | #one {head: int, rest: List}];
		type Strs = [#nil {} | #one {head: str, rest: Strs}];
		type Anys = [#nil {} | #one {head: any, rest: Anys}];
		type Nones = [#nil {} | #one {head: none, rest: Nones}];
		type Ints = {head: int, rest: Ints};
		type Turn = {head: int, rest: {head: str, rest: Turn}};
		type TurnAny = {head: int, rest: {head: any, rest: TurnAny}};
		type TurnNone = {head: int, rest: {head: none, rest: TurnNone}};
		type Late = {head: str, rest: Turn};
		type AnyRest = {head: any, rest: AnyRest};
		type NoneRest = {head: none, rest: NoneRest};
		type Stream = {rest: Stream};
		type Put = {put: Put -> int};
		type Both = {put: Both -> int, get: int};
		type Get = {put: Put -> int, get: int};
		type F = F -> int;
		type G = G -> str;
		type Up = Down -> any;
		type Down = Up -> none;
		type Even = [#more [#more Even | #end {}] | ..];
		type Odd = [#more [#more Odd | ..] | #end {}];
		type Open = [#more Open | ..];
		type Closed = [#more Closed | #end {}];
		type Joined = {put: Met -> int};
		type Met = {get: int, put: Joined -> int};`
	for _, x := range [][4]string{
		{"List", "List", "List", "List"},
		{"List", "Strs", "Anys", "Nones"},
		{"List", "[#nil {}]", "List", "[#nil {}]"},
		{"List", "[#two {} | ..]", "[#two {} | ..]", "List"},
		{"List", "[#one {rest: [] , more: int}]", "[#nil {} | #one {rest: List}]", "[#one {head: int, more: int, rest: []}]"},
		{"Ints", "Stream", "Stream", "Ints"},
		{"Ints", "Turn", "TurnAny", "TurnNone"},
		{"Turn", "Late", "AnyRest", "NoneRest"},
		{"Late", "Ints", "{head: any, rest: TurnAny}", "{head: none, rest: TurnNone}"},
		{"Turn", "Turn", "Turn", "Turn"},
		{"Turn", "{head: int, rest: {head: str, rest: Turn}}", "Turn", "Turn"},
		// a pair that is wanted joined and met
		{"Put", "Both", "Joined", "Met"},
		{"Put", "Get", "Put", "Get"},
		{"Get", "Both", "{get: int, put: Met -> int}", "Met"},
		{"F", "G", "Up", "Down"},
		{"F", "F", "F", "F"},
		{"F", "F -> int", "F", "F"},
		{"Even", "Odd", "Open", "Closed"},
	} {
		told(t, x[0]+" and "+x[1], under(t, aliases, x[0]), under(t, aliases, x[1]), under(t, aliases, x[2]), under(t, aliases, x[3]))
	}
}

// P11.1: a pair that is wanted joined where it is wanted met: what takes itself takes the meet.
func TestJoinedAndMet(t *testing.T) {
	for _, x := range []struct{ one, other, join, meet api.Graph }{
		// A = {put: A -> int}, and the same with a name more
		{made(0, "{ put:1", "> 0 2", "i"), made(0, "{ get:2 put:1", "> 0 2", "i"),
			made(0, "{ put:1", "> 2 3", "{ get:3 put:4", "i", "> 0 3"), made(0, "{ get:1 put:2", "i", "> 3 1", "{ put:4", "> 0 1")},
		// functions that take themselves, and tell this or that
		{made(0, "> 0 1", "i"), made(0, "> 0 1", "s"), made(0, "> 1 2", "> 0 3", "*", "!"), made(0, "> 1 2", "> 0 3", "!", "*")},
		{made(0, "> 0 1", "i"), made(0, "> 0 1", "!"), made(0, "> 1 2", "> 0 3", "i", "!"), made(0, "> 1 2", "> 0 3", "!", "i")},
		// both of what they take, and of what they tell
		{made(0, "> 0 0"), made(0, "> 1 1", "> 0 0"), made(0, "> 0 0"), made(0, "> 0 0")},
		{made(0, "> 1 1", "{ a:0"), made(0, "> 1 1", "{ a:0 b:0"),
			made(0, "> 1 2", "{ a:3 b:4", "{ a:0", "> 2 1", "> 5 5", "{ a:4 b:4"),
			made(0, "> 1 2", "{ a:3", "{ a:0 b:4", "> 2 1", "> 5 5", "{ a:4 b:4")},
		// through an open variant
		{made(0, "] a:1", "> 0 2", "i"), made(0, "[ a:1 b:2", "> 0 2", "i"),
			made(0, "] a:1", "> 2 3", "[ a:4 b:3", "i", "> 0 3"), made(0, "[ a:1 b:2", "> 3 2", "i", "] a:4", "> 0 2")},
	} {
		told(t, "joined and met", x.one, x.other, x.join, x.meet)
		asAnew(t, "joined and met", x.one, x.other)
	}
}

// round is so many heads, each with the next one as its kid, or kids, the last one with the first.
func round(n int, head string) api.Graph {
	var l []string
	for i := range n {
		next := fmt.Sprint((i + 1) % n)
		l = append(l, map[string]string{
			"fun": "> " + next + " " + next, "record": "{ a:" + next, "closed": "[ a:" + next, "open": "] a:" + next,
		}[head])
	}
	return made(0, l...)
}

// P11.1: rounds of one head and of more, all of one meaning, from each of their heads.
func TestSameRounds(t *testing.T) {
	for _, head := range []string{"fun", "record", "closed", "open"} {
		want := round(1, head)
		for n := 1; n <= 7; n++ {
			for m := 1; m <= 7; m++ {
				a, b := round(n, head), round(m, head)
				for a.Root = range n {
					b.Root = (a.Root * 3) % m
					told(t, "rounds of one meaning", a, b, want, want)
				}
			}
		}
	}
}

// marked is a round of records, or variants, of which one has a name more, by which all are unlike, with the same kid as the other one's.
func marked(n int, kind int, open bool) api.Graph {
	var g api.Graph
	for i := range n {
		g.L = append(g.L, api.Head{Kind: kind, Names: []string{"a"}, Kids: []int{(i + 1) % n}, Open: open})
	}
	g.L[n-1].Names, g.L[n-1].Kids = []string{"a", "b"}, []int{0, 0}
	return g
}

// P11.1: rounds of unlike lengths: where the name is kept that both have, just one in so many heads has it, as both meet there.
func TestUnlikeLengths(t *testing.T) {
	for n := 1; n <= 9; n++ {
		for m := 1; m <= 9; m++ {
			whole := n
			for whole%m != 0 {
				whole += n
			}
			if _, met := asAnew(t, "records", marked(n, api.TRecord, false), marked(m, api.TRecord, false)); met < whole {
				t.Errorf("%d, %d: %d heads", n, m, met)
			}
			if joined, _ := asAnew(t, "closed", marked(n, api.TVariant, false), marked(m, api.TVariant, false)); joined < whole {
				t.Errorf("%d, %d: %d heads", n, m, joined)
			}
			asAnew(t, "open", marked(n, api.TVariant, true), marked(m, api.TVariant, true))
			asAnew(t, "one open", marked(n, api.TVariant, false), marked(m, api.TVariant, true))
			asked(t, "records", marked(n, api.TRecord, false), marked(m, api.TRecord, false), true, func(g api.Graph, e api.Errno) bool {
				return e == api.OK && equal(g, marked(whole, api.TRecord, false))
			})
			asked(t, "closed", marked(n, api.TVariant, false), marked(m, api.TVariant, false), false, func(g api.Graph, e api.Errno) bool {
				return e == api.OK && equal(g, marked(whole, api.TVariant, false))
			})
		}
	}
}

// P11.1: a round with a type that isn't one, which ends in this or that.
func TestRoundAndRow(t *testing.T) {
	for n := 1; n <= 6; n++ {
		for m := 1; m <= 6; m++ {
			for _, end := range []string{"{", "*", "!", "i", "d", "{ b:0", "{ a:1 b:1"} {
				var l []string
				for i := range m {
					l = append(l, fmt.Sprint("{ a:", i+1))
				}
				row := made(0, append(l, end)...)
				asAnew(t, "a round and a row", marked(n, api.TRecord, false), row)
				asAnew(t, "a round and a row", round(n, "record"), row)
			}
		}
	}
}
