package below_test

import (
	"fmt"
	"testing"

	"azimuth/api"
	"azimuth/below"
	"azimuth/graph"
)

// P9.1: heads that are their own kids, each against each, and against types without rounds.
func TestOwnKids(t *testing.T) {
	fun, record, closed, open := made(0, "> 0 0"), made(0, "{ a:0"), made(0, "[ a:0"), made(0, "] a:0")
	for i, one := range []api.Graph{fun, record, closed, open} {
		for j, other := range []api.Graph{fun, record, closed, open} {
			told(t, "own kids", one, other, i == j || i == 2 && j == 3, i == j || i == 3 && j == 2)
		}
		told(t, "own kids", one, graph.Basic(api.TAny), true, false)
		told(t, "own kids", one, graph.Basic(api.TNone), false, true)
		told(t, "own kids", one, graph.Basic(api.TDyn), false, false)
		told(t, "own kids", one, graph.Basic(api.TInt), false, false)
	}
	for _, x := range []struct {
		one         api.Graph
		other       string
		there, back bool
	}{
		{fun, "none -> any", true, false},
		{fun, "any -> none", false, true},
		{fun, "int -> int", false, false},
		{fun, "(any -> none) -> (none -> any)", true, false},
		{fun, "(none -> any) -> (any -> none)", false, true},
		{fun, "(none -> any) -> (none -> any)", false, false},
		{record, "{}", true, false},
		{record, "{a: {}}", true, false},
		{record, "{a: {a: {a: {}}}}", true, false},
		{record, "{a: any}", true, false},
		{record, "{a: none}", false, true},
		{record, "{a: {a: none, b: int}}", false, true},
		{record, "{a: int}", false, false},
		{record, "{a: {b: any}}", false, false},
		{closed, "[]", false, true},
		{closed, "[#a []]", false, true},
		{closed, "[#a [#a none]]", false, true},
		{closed, "[#a [#a int]]", false, false},
		{closed, "[#a any]", true, false},
		{closed, "[#a [#a any | #b int] | #c int]", true, false},
		{closed, "[..]", true, false},
		{closed, "[#a [#b int | ..]]", true, false},
		{closed, "[#a [#b int]]", false, false},
		{open, "[..]", true, false},
		{open, "[]", false, true},
		{open, "[#a [..] | ..]", true, false},
		{open, "[#a [#a any | ..] | #b any | ..]", true, false},
		{open, "[#a [#a none | ..] | ..]", false, true},
		{open, "[#a [#a none] | ..]", false, true},
		{open, "[#a [#a none | #b int] | #b int]", false, true},
	} {
		told(t, x.other, x.one, of(t, x.other), x.there, x.back)
	}
}

// P9.1: types under aliases that come back to themselves.
func TestAliases(t *testing.T) {
	const aliases = `type List = [#nil {} | #one {head: int, rest: List}];
		type More = [#nil {} | #one {head: any, rest: More} | #two {}];
		type Open = [#one {rest: Open} | ..];
		type Long = [#nil {} | #one {head: int, rest: [#nil {} | #one {head: int, rest: Long}]}];
		type Else = [#nil {} | #one {head: int, rest: [#nil {} | #one {head: str, rest: Else}]}];
		type Ever = {head: int, rest: Ever};
		type Stream = {rest: Stream};
		type In = {put: In -> int};
		type Both = {put: Both -> int, get: int};
		type Out = {get: int, put: In -> int};
		type Twice = {put: (Twice -> int) -> int};
		type Thrice = {put: (Thrice -> int) -> int, get: int};
		type Fun = Fun -> int;
		type FunAny = FunAny -> any;
		type Once = Fun -> any;
		type Turns = (Turns -> int) -> int;
		type TurnsAny = (TurnsAny -> int) -> any;`
	for _, x := range []struct {
		one, other  string
		there, back bool
	}{
		{"List", "List", true, true},
		{"List", "Long", true, true},
		{"List", "More", true, false},
		{"Long", "More", true, false},
		{"Else", "More", true, false},
		{"List", "Else", false, false},
		{"Long", "Else", false, false},
		{"List", "Open", true, false},
		{"More", "Open", true, false},
		{"Else", "Open", true, false},
		{"Ever", "Stream", true, false},
		{"Ever", "{rest: Stream}", true, false},
		{"Ever", "{rest: Ever}", true, false},
		{"Ever", "{rest: Ever, head: int}", true, true},
		{"Stream", "{rest: {rest: Stream}}", true, true},
		// a pair that is met turned
		{"In", "Both", false, false},
		{"Out", "In", true, false},
		{"Both", "Out", false, false},
		{"Both", "{put: {put: Both -> int, get: int} -> int, get: int}", true, true},
		{"Fun", "FunAny", false, false},
		{"Fun", "Once", true, false},
		{"Fun", "Fun -> int", true, true},
		{"Fun", "(Fun -> int) -> int", true, true},
		{"Once", "FunAny", false, false},
		// and turned twice
		{"Thrice", "Twice", true, false},
		{"Turns", "TurnsAny", true, false},
		{"Turns", "Fun", true, true},
		{"TurnsAny", "FunAny", false, true},
	} {
		told(t, x.one+" and "+x.other, under(t, aliases, x.one), under(t, aliases, x.other), x.there, x.back)
	}
}

// round is so many heads, each with the next one as its kid, or kids, the last one with the first.
func round(n int, head string) api.Graph {
	var l []string
	for i := range n {
		next := fmt.Sprint((i + 1) % n)
		l = append(l, map[string]string{
			"fun": "> " + next + " " + next, "record": "{ a:" + next, "closed": "[ a:" + next, "open": "] a:" + next,
		}[head])
	}
	return made(0, l...)
}

// P9.1: rounds of one head and of more, all of one meaning, from each of their heads.
func TestSameRounds(t *testing.T) {
	for _, head := range []string{"fun", "record", "closed", "open"} {
		for n := 1; n <= 10; n++ {
			for m := 1; m <= 10; m++ {
				a, b := round(n, head), round(m, head)
				for a.Root = range n {
					b.Root = a.Root % m
					told(t, head, a, b, true, true)
				}
				told(t, head, a, round(m, map[string]string{"fun": "record", "record": "closed", "closed": "fun", "open": "record"}[head]), false, false)
			}
		}
	}
	for n := 1; n <= 10; n++ {
		for m := 1; m <= 10; m++ {
			told(t, "closed and open rounds", round(n, "closed"), round(m, "open"), true, false)
		}
	}
}

// P9.1: rounds of which one head has a name more: of records the one is below the other one just if it has the name each time when that has it.
func TestUnlikeRounds(t *testing.T) {
	more := func(n, at int, head string) api.Graph {
		g := round(n, head)
		g.L[at].Names, g.L[at].Kids = append(g.L[at].Names, "b"), append(g.L[at].Kids, (at+1)%n)
		return g
	}
	for n := 1; n <= 9; n++ {
		for m := 1; m <= 9; m++ {
			for at := range n {
				for _, head := range []string{"record", "closed", "open"} {
					// The one has the name at at, at + n and so on, the other one at 0, m and so on.
					there, back := at == 0 && m%n == 0, at%m == 0 && n%m == 0
					less, least := true, false
					if head == "closed" { // it is the other way around
						there, back = back, there
						less, least = false, true
					}
					a := more(n, at, head)
					told(t, fmt.Sprint("a name more: ", head, n, m, at), a, round(m, head), less, least)
					told(t, fmt.Sprint("a name more each: ", head, n, m, at), a, more(m, 0, head), there, back)
				}
			}
		}
	}
}

// P9.1: a round through functions, in which the pair that was first is met turned, or isn't.
func TestTurnedRounds(t *testing.T) {
	for n := 1; n <= 12; n++ {
		ring := func(more bool) api.Graph {
			g := made(0, "{ a:1")
			for i := 1; i <= n; i++ {
				g.L = append(g.L, api.Head{Kind: api.TFun, Kids: []int{(i + 1) % (n + 1), n + 1}})
			}
			if g.L = append(g.L, api.Head{Kind: api.TInt}); more {
				g.L[0].Names, g.L[0].Kids = append(g.L[0].Names, "b"), append(g.L[0].Kids, n+1)
			}
			return g
		}
		told(t, fmt.Sprint("through functions: ", n), ring(true), ring(false), n%2 == 0, false)
		told(t, fmt.Sprint("through functions: ", n), ring(true), ring(true), true, true)
		// From where it is turned.
		a, b := ring(true), ring(false)
		for at := 1; at <= n; at++ {
			a.Root, b.Root = at, at
			turns := n + 1 - at
			told(t, fmt.Sprint("through functions: ", n, at), a, b, n%2 == 0 && turns%2 == 0, n%2 == 0 && turns%2 == 1)
		}
	}
}

// P9.1: ways into a round, from outside.
func TestIntoRounds(t *testing.T) {
	for _, x := range []struct {
		one, other  api.Graph
		there, back bool
	}{
		{made(0, "{ a:1", "{ a:2", "{ a:1"), made(0, "{ a:0"), true, true},
		{made(0, "{ a:1 b:1", "{ a:2", "{ a:1"), made(0, "{ a:0"), true, false},
		{made(0, "{ a:1", "{ a:2", "{ a:1 b:1"), made(0, "{ a:0"), true, false},
		{made(0, "{ a:1", "{ a:2", "{ b:1"), made(0, "{ a:0"), false, false},
		{made(0, "{ a:1 b:0", "{ a:0 b:1"), made(0, "{ a:0 b:0"), true, true},
		{made(0, "{ a:1 b:0", "{ a:0 b:2", "i"), made(0, "{ a:0 b:0"), false, false},
		{made(0, "{ a:1 b:0", "{ a:0 b:2", "!"), made(0, "{ a:0 b:0"), true, false},
		{made(0, "{ a:1 b:0", "{ a:0 b:2", "*"), made(0, "{ a:0 b:0"), false, true},
		{made(0, "> 1 2", "> 0 3", "i", "i"), made(0, "> 0 1", "i"), true, true},
		{made(0, "> 1 2", "> 0 3", "i", "*"), made(0, "> 0 1", "i"), true, false},
		{made(0, "> 1 2", "> 0 3", "*", "i"), made(0, "> 0 1", "i"), false, true},
		{made(0, "> 1 2", "> 0 3", "!", "*"), made(0, "> 0 1", "i"), true, false},
		{made(0, "> 1 2", "> 0 3", "*", "!"), made(0, "> 0 1", "i"), false, true},
	} {
		told(t, "into a round", x.one, x.other, x.there, x.back)
		asAnew(t, "into a round", x.one, x.other)
	}
}

// P9.1: graphs that aren't normal: heads to which the root doesn't come, heads that are alike, other numbers.
func TestNotNormal(t *testing.T) {
	one, other := made(0, "{ a:1 b:2", "> 2 1", "i"), made(0, "{ a:1", "> 2 1", "i")
	told(t, "normal graphs", one, other, true, false)
	for _, a := range []api.Graph{
		made(2, "i", "> 0 1", "{ a:1 b:0"),
		made(1, "> 2 0", "{ a:0 b:2", "i"),
		made(0, "{ a:1 b:2", "> 3 1", "i", "i"),
		made(0, "{ a:1 b:2", "> 3 4", "i", "i", "> 2 1"),
		made(3, "> 1 1", "b", "{ a:1 b:3", "{ a:4 b:5", "> 5 4", "i"),
		made(5, "*", "!", "d", "] a:0", "> 6 4", "{ a:4 b:6", "i", "{ a:7"),
	} {
		for _, b := range []api.Graph{
			made(2, "i", "> 0 1", "{ a:1"),
			made(0, "{ a:1", "> 3 2", "> 4 1", "i", "i"),
			made(1, "{ a:1", "{ a:3", "> 0 0", "> 4 3", "i", "*", "! "),
		} {
			told(t, "graphs that aren't normal", a, b, true, false)
		}
		told(t, "the same twice", a, a, true, true)
		told(t, "a normal graph and another", a, one, true, true)
	}
	// The root alone tells which head is asked.
	g := made(0, "{ a:1 b:2", "{ a:2", "{", "[", "]", "i", "*", "!")
	above := []string{"11100010", "01100010", "00100010", "00011010", "00001010", "00000110", "00000010", "11111111"}
	var l []api.Graph
	for i := range g.L {
		l = append(l, api.Graph{L: g.L, Root: i})
	}
	for i := range l {
		for j := range l {
			told(t, fmt.Sprint("heads ", i, " and ", j), l[i], l[j], above[i][j] == '1', above[j][i] == '1')
		}
	}
	if table := below.Table(l); shownTable(table) != fmt.Sprint(above)[1:len(fmt.Sprint(above))-1] {
		t.Error(shownTable(table))
	}
}
