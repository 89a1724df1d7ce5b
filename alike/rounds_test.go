package alike_test

import (
	"fmt"
	"testing"

	"azimuth/api"
	"azimuth/graph"
)

// P10.1: heads that are their own kids, each against each, against dyn, and against types without rounds.
func TestOwnKids(t *testing.T) {
	fun, record, closed, open := made(0, "> 0 0"), made(0, "{ a:0"), made(0, "[ a:0"), made(0, "] a:0")
	for i, one := range []api.Graph{fun, record, closed, open} {
		for j, other := range []api.Graph{fun, record, closed, open} {
			same := i == j || i+j == 5 // both variants, of one name
			told(t, "own kids", one, other, same, same)
		}
		dynTold(t, "own kids", one, i != 3, true)
		told(t, "own kids", one, graph.Basic(api.TAny), true, false)
		told(t, "own kids", one, graph.Basic(api.TNone), false, true)
		told(t, "own kids", one, graph.Basic(api.TInt), false, false)
	}
	for _, x := range []struct {
		one         api.Graph
		other       string
		there, back bool
	}{
		{fun, "none -> any", true, false},
		{fun, "any -> none", false, true},
		{fun, "int -> int", false, false},
		{fun, "dyn -> dyn", true, true},
		{fun, "dyn -> int", false, false},
		{fun, "(dyn -> dyn) -> (dyn -> dyn)", true, true},
		{fun, "(any -> dyn) -> (dyn -> any)", true, false},
		{fun, "(dyn -> any) -> (any -> dyn)", false, true},
		{record, "{}", true, false},
		{record, "{a: {}}", true, false},
		{record, "{a: dyn}", true, true},
		{record, "{a: {a: {a: dyn}}}", true, true},
		{record, "{a: {a: dyn, b: dyn}}", false, true},
		{record, "{a: any}", true, false},
		{record, "{a: none}", false, true},
		{record, "{a: int}", false, false},
		{record, "{a: {b: any}}", false, false},
		{closed, "[]", true, true},
		{closed, "[#a []]", true, true},
		{closed, "[#a [#a none]]", false, true},
		{closed, "[#a [#a int]]", false, false},
		{closed, "[#a [#b int]]", true, true},
		{closed, "[#a dyn | #b any]", true, true},
		{closed, "[#a [#a any | #b int] | #c int]", true, false},
		{closed, "[..]", true, false},
		{closed, "[#a [#b int | ..]]", true, false},
		{closed, "[#a [#a [#a dyn | ..] | ..] | ..]", true, true},
		{open, "[..]", true, false},
		{open, "[]", true, true},
		{open, "[#a []]", true, true},
		{open, "[#a [#b any]]", true, true},
		{open, "[#a dyn]", false, true},
		{open, "[#a [#a dyn]]", false, true},
		{open, "[#a [#a [#a any]] | #b any]", true, false},
		{open, "[#a [#a any | #b int]]", false, false},
	} {
		told(t, x.other, x.one, of(t, x.other), x.there, x.back)
		asAnew(t, x.other, x.one, of(t, x.other))
	}
}

// P10.1: types under aliases that come back to themselves.
func TestAliases(t *testing.T) {
	const aliases = `type List = [#nil {} | #one {head: int, rest: List}];
		type Any = [#nil {} | #one {head: any, rest: Any}];
		type Dyn = [#nil {} | #one {head: dyn, rest: Dyn}];
		type Half = [#nil {} | #one {head: int, rest: dyn}];
		type Long = [#nil {} | #one {head: int, rest: [#nil {} | #one {head: int, rest: Long}]}];
		type Else = [#nil {} | #one {head: int, rest: [#nil {} | #one {head: str, rest: Else}]}];
		type Open = [#one {rest: Open} | ..];
		type Ever = {head: int, rest: Ever};
		type Stream = {rest: Stream};
		type In = {put: In -> int};
		type Both = {put: Both -> int, get: int};
		type Out = {get: int, put: In -> int};
		type Twice = {put: (Twice -> int) -> int};
		type Thrice = {put: (Thrice -> int) -> int, get: int};
		type Fun = Fun -> int;
		type FunAny = FunAny -> any;
		type FunDyn = FunDyn -> dyn;
		type Once = Fun -> any;
		type Turns = (Turns -> int) -> int;
		type TurnsAny = (TurnsAny -> int) -> any;
		type TurnsOpen = (TurnsOpen -> int) -> [..];`
	for _, x := range []struct {
		one, other  string
		there, back bool
	}{
		{"List", "List", true, true},
		{"List", "Long", true, true},
		{"List", "Any", true, false},
		{"List", "Dyn", true, true},
		{"List", "Half", true, true},
		{"Long", "Half", true, true},
		{"Dyn", "Half", true, true},
		{"Any", "Dyn", false, true},
		{"Any", "Half", false, true},
		{"Else", "Half", true, true},
		{"Else", "Any", true, false},
		{"Else", "Dyn", true, true},
		{"List", "Else", false, false},
		{"List", "Open", true, false},
		{"Else", "Open", true, false},
		{"Open", "[]", true, true},
		{"Open", "[#nil any]", true, true},
		{"Open", "[#one dyn]", false, true},
		{"Ever", "Stream", true, false},
		{"Ever", "{rest: Ever}", true, false},
		{"Ever", "{rest: Stream}", true, false},
		{"Ever", "{rest: dyn}", true, false},
		{"Ever", "{rest: dyn, head: dyn}", true, true},
		{"Ever", "{rest: {head: str, rest: dyn}, head: dyn}", false, false},
		{"Stream", "{rest: {rest: Stream}}", true, true},
		// a pair that is met turned
		{"In", "Both", false, false},
		{"Out", "In", true, false},
		{"Both", "Out", false, false},
		{"Both", "{put: {put: Both -> int, get: int} -> int, get: int}", true, true},
		{"Both", "{put: {put: dyn -> int, get: dyn} -> dyn, get: int}", true, true},
		{"Fun", "FunAny", false, false},
		{"Fun", "FunDyn", true, true},
		{"FunAny", "FunDyn", false, false},
		{"Fun", "Once", true, false},
		{"Fun", "(Fun -> int) -> int", true, true},
		{"Once", "FunAny", false, false},
		// and turned twice
		{"Thrice", "Twice", true, false},
		{"Turns", "TurnsAny", true, false},
		{"Turns", "Fun", true, true},
		{"TurnsAny", "FunAny", false, true},
		{"TurnsAny", "FunDyn", false, true},
	} {
		told(t, x.one+" and "+x.other, under(t, aliases, x.one), under(t, aliases, x.other), x.there, x.back)
	}
	for _, x := range []struct {
		text     string
		to, from bool
	}{
		{"List", true, true}, {"Any", false, true}, {"Dyn", true, true}, {"Half", true, true}, {"Else", true, true}, {"Open", false, true},
		{"Ever", true, true}, {"In", true, true}, {"Both", true, true}, {"Out", true, true}, {"Twice", true, true},
		{"Fun", true, true}, {"FunAny", false, false}, {"FunDyn", true, true}, {"Once", false, true},
		{"Turns", true, true}, {"TurnsAny", false, true}, {"TurnsOpen", false, true}, {"TurnsOpen -> int", true, false}, {"TurnsAny -> int", true, false},
	} {
		dynTold(t, x.text, under(t, aliases, x.text), x.to, x.from)
	}
}

// round is so many heads, each with the next one as its kid, or kids, the last one with the first.
func round(n int, head string) api.Graph {
	var l []string
	for i := range n {
		next := fmt.Sprint((i + 1) % n)
		l = append(l, map[string]string{
			"fun": "> " + next + " " + next, "record": "{ a:" + next, "closed": "[ a:" + next, "open": "] a:" + next,
		}[head])
	}
	return made(0, l...)
}

// P10.1: rounds of one head and of more, all of one meaning, from each of their heads; and against dyn.
func TestSameRounds(t *testing.T) {
	for _, head := range []string{"fun", "record", "closed", "open"} {
		for n := 1; n <= 10; n++ {
			dynTold(t, head, round(n, head), head != "open", true)
			for m := 1; m <= 10; m++ {
				a, b := round(n, head), round(m, head)
				for a.Root = range n {
					b.Root = a.Root % m
					told(t, head, a, b, true, true)
				}
				told(t, head, a, round(m, map[string]string{"fun": "record", "record": "closed", "closed": "fun", "open": "record"}[head]), false, false)
			}
		}
	}
}

// P10.1: rounds of two and of more heads, of which one has one kid more, of some kind; against a round without, and against dyn.
func TestUnlikeRounds(t *testing.T) {
	for n := 2; n <= 9; n++ {
		for at := range n {
			for _, end := range []string{"i", "d", "*", "!", "]"} {
				a, b := round(n, "record"), round(n, "record")
				for i, g := range []*api.Graph{&a, &b} {
					h := &g.L[at]
					h.Names, h.Kids = append(h.Names, "b"), append(h.Kids, n)
					g.L = append(g.L, made(0, []string{end, "i"}[i]).L[0])
				}
				told(t, fmt.Sprint("rounds: ", n, at, end), a, b, end != "*" && end != "]", end == "i" || end == "d" || end == "*")
				dynTold(t, fmt.Sprint("rounds: ", n, at, end), a, end != "*" && end != "]", true)
				told(t, "a round with a name more", a, round(n, "record"), true, false)
				// In variants, a name that the other one hasn't counts only against open ones.
				a.L[at].Kind, b = api.TVariant, round(n, "record")
				b.L[at].Kind = api.TVariant
				told(t, "a variant with a name more", a, b, true, true)
				b.L[at].Open = true
				told(t, "a variant with a name more", a, b, true, end == "*")
				a.L[at].Open = true
				told(t, "open ones", a, b, true, end == "*")
				dynTold(t, "an open one in a round", a, false, true)
			}
		}
	}
}

// P10.1: rounds through what functions take, in which a pair, and a cast from and to dyn, is met turned.
func TestTurnedRounds(t *testing.T) {
	for n := 1; n <= 9; n++ {
		for at := range n {
			for _, end := range []string{"i", "d", "*", "!", "]"} {
				g := api.Graph{}
				for i := range n {
					g.L = append(g.L, api.Head{Kind: api.TFun, Kids: []int{(i + 1) % n, n}})
				}
				g.L[at].Kids[1] = n + 1
				g.L = append(g.L, made(0, "i", end).L...)
				whole := cloned(g)
				whole.L[at].Kids[1] = n
				// In a round of an odd number of heads each is met both ways.
				even, speaks := n%2 == 0, end == "*" || end == "]"
				told(t, fmt.Sprint("turned: ", n, at, end), g, g, true, true)
				there := end == "i" || end == "d" || even && (at%2 == 0 && end == "!" || at%2 == 1 && end == "*")
				back := end == "i" || end == "d" || even && (at%2 == 1 && end == "!" || at%2 == 0 && end == "*")
				told(t, fmt.Sprint("turned: ", n, at, end), g, whole, there, back)
				// any and the open one can be cast from dyn, and not to it; where they are met turned from dyn to them alone.
				dynTold(t, fmt.Sprint("turned: ", n, at, end), g, !speaks || even && at%2 == 1, !speaks || even && at%2 == 0)
				asAnew(t, fmt.Sprint("turned: ", n, at, end), g, whole)
			}
		}
	}
}

// P10.1: ways into a round, from outside.
func TestIntoRounds(t *testing.T) {
	for _, x := range []struct {
		one, other  api.Graph
		there, back bool
	}{
		{made(0, "{ a:1", "{ a:2", "{ a:1"), made(0, "{ a:0"), true, true},
		{made(0, "{ a:1 b:1", "{ a:2", "{ a:1"), made(0, "{ a:0"), true, false},
		{made(0, "{ a:1", "{ a:2", "{ a:1 b:1"), made(0, "{ a:0"), true, false},
		{made(0, "{ a:1", "{ a:2", "{ b:1"), made(0, "{ a:0"), false, false},
		{made(0, "{ a:1", "{ a:2", "d"), made(0, "{ a:0"), true, true},
		{made(0, "{ a:1 b:0", "{ a:0 b:2", "i"), made(0, "{ a:0 b:0"), false, false},
		{made(0, "{ a:1 b:0", "{ a:0 b:2", "d"), made(0, "{ a:0 b:0"), true, true},
		{made(0, "{ a:1 b:0", "{ a:0 b:2", "!"), made(0, "{ a:0 b:0"), true, false},
		{made(0, "{ a:1 b:0", "{ a:0 b:2", "*"), made(0, "{ a:0 b:0"), false, true},
		{made(0, "[ a:1 b:0", "[ a:0"), made(0, "[ a:0 b:0"), true, true},
		{made(0, "[ a:1 b:0", "[ a:0", "i"), made(0, "[ a:1 b:0", "] a:0"), true, true},
		{made(0, "[ a:1 b:0", "[ a:0 b:2", "i"), made(0, "[ a:1 b:0", "] a:0"), true, false},
		{made(0, "> 1 2", "> 0 3", "i", "i"), made(0, "> 0 1", "i"), true, true},
		{made(0, "> 1 2", "> 0 3", "d", "i"), made(0, "> 0 1", "i"), true, true},
		{made(0, "> 1 2", "> 0 3", "i", "*"), made(0, "> 0 1", "i"), true, false},
		{made(0, "> 1 2", "> 0 3", "*", "i"), made(0, "> 0 1", "i"), false, true},
		{made(0, "> 1 2", "> 0 3", "!", "*"), made(0, "> 0 1", "i"), true, false},
	} {
		told(t, "into a round", x.one, x.other, x.there, x.back)
		asAnew(t, "into a round", x.one, x.other)
	}
}

// P10.1: graphs that aren't normal: heads to which the root doesn't come, heads that are alike, other numbers.
func TestNotNormal(t *testing.T) {
	for _, a := range []api.Graph{
		made(0, "{ a:1 b:2", "> 2 1", "i"),
		made(2, "i", "> 0 1", "{ a:1 b:0"),
		made(1, "> 2 0", "{ a:0 b:2", "i"),
		made(0, "{ a:1 b:2", "> 3 1", "i", "i"),
		made(0, "{ a:1 b:2", "> 3 4", "i", "i", "> 2 1"),
		made(3, "> 1 1", "b", "{ a:1 b:3", "{ a:4 b:5", "> 5 4", "i"),
		made(5, "*", "!", "d", "] a:0", "> 6 4", "{ a:4 b:6", "i", "{ a:7"),
	} {
		for _, b := range []api.Graph{
			made(0, "{ a:1", "> 2 1", "d"),
			made(2, "d", "> 0 1", "{ a:1"),
			made(0, "{ a:1", "> 3 2", "> 4 1", "d", "d"),
			made(1, "{ a:1", "{ a:3", "> 0 0", "> 4 3", "d", "*", "! "),
		} {
			told(t, "graphs that aren't normal", a, b, true, false)
			dynTold(t, "a graph that isn't normal", b, true, true)
		}
		told(t, "the same twice", a, a, true, true)
		dynTold(t, "a graph that isn't normal", a, true, true)
	}
	// The root alone tells which head is asked.
	g := made(0, "{ a:1 b:2", "{ a:2", "{", "[", "]", "i", "*", "!", "d")
	want := []string{"111000101", "011000101", "001000101", "000110101", "000110100", "000001101", "000000100", "111111111", "111111111"}
	for i := range g.L {
		a := api.Graph{L: g.L, Root: i}
		dynTold(t, fmt.Sprint("head ", i), a, want[i][8] == '1', want[8][i] == '1')
		for j := range g.L {
			told(t, fmt.Sprint("heads ", i, " and ", j), a, api.Graph{L: g.L, Root: j}, want[i][j] == '1', want[j][i] == '1')
		}
	}
}
