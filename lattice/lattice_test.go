package lattice_test

import (
	"testing"

	"azimuth/api"
	"azimuth/graph"
	"azimuth/lattice"
)

// P11.1: the chapter's examples, and the whole's.
func TestExamples(t *testing.T) {
	toldTexts(t, "{a: int, b: int}", "{a: str}", "{a: any}", "{a: none, b: int}")
	toldTexts(t, "[#a int | #b int]", "[#b any]", "[#a int | #b any]", "[#b int]")
}

// A type of each kind, and a few more, no two of one kind in a row of which some are below others.
var ofKinds = [][]string{
	{"int"}, {"bool"}, {"str"}, {"float"}, {"dyn"},
	{"int -> int", "none -> any", "any -> none", "any -> dyn"},
	{"{}", "{a: int}", "{a: any, b: none}"},
	{"[]", "[#a int]", "[..]", "[#a any | #b none | ..]"},
}

// P11.1: none and any with each kind, themselves too; each type with itself.
func TestNoneAndAny(t *testing.T) {
	for _, row := range append(ofKinds, []string{"none"}, []string{"any"}) {
		for _, text := range row {
			toldTexts(t, text, "none", text, "none")
			toldTexts(t, text, "any", "any", text)
			toldTexts(t, text, text, text, text)
		}
	}
}

// P11.1: heads of unlike kinds.
func TestUnlikeKinds(t *testing.T) {
	for i, row := range ofKinds {
		for k, others := range ofKinds {
			for _, one := range row {
				for _, other := range others {
					if i != k {
						toldTexts(t, one, other, "any", "none")
						toldTexts(t, "int -> "+one, "int -> "+other, "int -> any", "int -> none")
						toldTexts(t, "{a: "+one+"} -> int", "{a: "+other+"} -> int", "{a: none} -> int", "{a: any} -> int")
					}
				}
			}
		}
	}
}

// toldWithin: two types, and the two as kids of heads of each kind: what comes of those, if of the types themselves a join and a meet come.
func toldWithin(t *testing.T, one, other, join, meet string) {
	t.Helper()
	toldTexts(t, one, other, join, meet)
	for _, x := range [][2]string{{"{a: ", "}"}, {"{a: str, b: ", ", c: {}}"}, {"[#a (", ")]"}, {"[#a (", ") | ..]"}, {"[#a str | #b (", ") | #c []]"}, {"int -> ", ""}, {"{a: int -> [#a ({} -> {b: ", "}) | ..]}"}} {
		toldTexts(t, x[0]+one+x[1], x[0]+other+x[1], x[0]+join+x[1], x[0]+meet+x[1])
	}
	for _, x := range [][2]string{{"(", ") -> int"}, {"(int -> ", ") -> int"}, {"{a: {a: ", "} -> int}"}, {"[#a ([#b (", ")] -> {}) | ..]"}} {
		toldTexts(t, x[0]+one+x[1], x[0]+other+x[1], x[0]+meet+x[1], x[0]+join+x[1])
	}
	toldTexts(t, "(("+one+") -> int) -> int", "(("+other+") -> int) -> int", "(("+join+") -> int) -> int", "(("+meet+") -> int) -> int")
}

// P11.1: kinds, functions and records, as they are and as kids of heads of each kind.
func TestWithin(t *testing.T) {
	for _, x := range [][4]string{
		{"int", "int", "int", "int"},
		{"dyn", "dyn", "dyn", "dyn"},
		{"int", "str", "any", "none"},
		{"dyn", "int", "any", "none"},
		{"any", "dyn", "any", "dyn"},
		{"none", "float", "float", "none"},
		{"any", "none", "any", "none"},
		{"any", "any", "any", "any"},
		{"none", "none", "none", "none"},
		{"{}", "[]", "any", "none"},
		{"{a: int}", "{b: str}", "{}", "{a: int, b: str}"},
		{"{a: int} -> {a: int}", "{b: int} -> {b: int}", "{a: int, b: int} -> {}", "{} -> {a: int, b: int}"},
		{"[#a int]", "[#b str]", "[#a int | #b str]", "[]"},
		{"[#a int]", "[..]", "[..]", "[#a int]"},
	} {
		toldWithin(t, x[0], x[1], x[2], x[3])
	}
}

// P11.1: functions: what they take is met where what they tell is joined, and the other way round.
func TestFunctions(t *testing.T) {
	for _, x := range [][4]string{
		{"int -> int", "int -> int", "int -> int", "int -> int"},
		{"int -> int", "str -> int", "none -> int", "any -> int"},
		{"int -> int", "int -> str", "int -> any", "int -> none"},
		{"int -> int", "str -> str", "none -> any", "any -> none"},
		{"none -> int", "any -> int", "none -> int", "any -> int"},
		{"int -> none", "int -> any", "int -> any", "int -> none"},
		{"none -> any", "any -> none", "none -> any", "any -> none"},
		{"none -> none", "any -> any", "none -> any", "any -> none"},
		{"none -> none", "int -> int", "none -> int", "int -> none"},
		{"any -> any", "int -> int", "int -> any", "any -> int"},
		{"dyn -> dyn", "int -> int", "none -> any", "any -> none"},
		{"dyn -> dyn", "dyn -> int", "dyn -> any", "dyn -> none"},
		{"dyn -> int", "any -> int", "dyn -> int", "any -> int"},
		{"dyn -> int", "none -> none", "none -> int", "dyn -> none"},
		{"(int -> int) -> int", "(str -> int) -> int", "(any -> int) -> int", "(none -> int) -> int"},
		{"(int -> int) -> int", "(int -> str) -> int", "(int -> none) -> int", "(int -> any) -> int"},
		{"(int -> int) -> int", "int -> int", "none -> int", "any -> int"},
		{"int -> int -> int", "int -> str -> str", "int -> none -> any", "int -> any -> none"},
		{"int -> int -> int", "str -> int -> int", "none -> int -> int", "any -> int -> int"},
		{"int -> int -> int", "int -> int", "int -> any", "int -> none"},
		{"(int -> int) -> str -> str", "(str -> int) -> int -> str", "(any -> int) -> none -> str", "(none -> int) -> any -> str"},
		{"((int -> int) -> int) -> int", "((str -> int) -> int) -> int", "((none -> int) -> int) -> int", "((any -> int) -> int) -> int"},
		{"{a: int} -> int", "{b: int} -> str", "{a: int, b: int} -> any", "{} -> none"},
		{"{a: int, b: str} -> {a: int, b: str}", "{b: int} -> {b: int}", "{a: int, b: none} -> {b: any}", "{b: any} -> {a: int, b: none}"},
		{"[#a int] -> [#a int]", "[#b int | ..] -> [#b int | ..]", "[#a int] -> [#b int | ..]", "[#b int | ..] -> [#a int]"},
		{"[#a int | ..] -> {}", "[#b int | ..] -> {a: int}", "[#a int | #b int | ..] -> {}", "[..] -> {a: int}"},
	} {
		toldTexts(t, x[0], x[1], x[2], x[3])
	}
}

// P11.1: records: of the join the names of both, of the meet all.
func TestRecords(t *testing.T) {
	for _, x := range [][4]string{
		{"{}", "{}", "{}", "{}"},
		{"{}", "{a: int}", "{}", "{a: int}"},
		{"{}", "{a: any, b: none}", "{}", "{a: any, b: none}"},
		{"{a: int}", "{a: int}", "{a: int}", "{a: int}"},
		{"{a: int}", "{a: str}", "{a: any}", "{a: none}"},
		{"{a: int}", "{a: any}", "{a: any}", "{a: int}"},
		{"{a: int}", "{a: none}", "{a: int}", "{a: none}"},
		{"{a: dyn}", "{a: int}", "{a: any}", "{a: none}"},
		{"{a: int}", "{b: int}", "{}", "{a: int, b: int}"},
		{"{b: int}", "{a: none}", "{}", "{a: none, b: int}"},
		{"{a: int, b: str}", "{a: int}", "{a: int}", "{a: int, b: str}"},
		{"{a: int, b: str}", "{b: str}", "{b: str}", "{a: int, b: str}"},
		{"{a: int, b: str}", "{a: str, b: str}", "{a: any, b: str}", "{a: none, b: str}"},
		{"{a: int, b: str}", "{b: str, a: int}", "{a: int, b: str}", "{a: int, b: str}"},
		{"{a: int, b: str}", "{b: int, c: float}", "{b: any}", "{a: int, b: none, c: float}"},
		{"{a: int, c: str}", "{b: bool}", "{}", "{a: int, b: bool, c: str}"},
		{"{a: int, c: str}", "{b: bool, d: dyn}", "{}", "{a: int, b: bool, c: str, d: dyn}"},
		{"{a: int, c: str, e: int}", "{b: bool, c: str, d: dyn}", "{c: str}", "{a: int, b: bool, c: str, d: dyn, e: int}"},
		{"{a: int, b: int, c: int, d: int}", "{b: str, d: str}", "{b: any, d: any}", "{a: int, b: none, c: int, d: none}"},
		{"{a: int, b: int, c: int, d: int}", "{a: str, e: str}", "{a: any}", "{a: none, b: int, c: int, d: int, e: str}"},
		{"{c: int, d: int}", "{a: int, b: int, c: int, d: str, e: str, f: int}", "{c: int, d: any}", "{a: int, b: int, c: int, d: none, e: str, f: int}"},
		{"{a: int, aa: str}", "{aa: str, ab: int}", "{aa: str}", "{a: int, aa: str, ab: int}"},
		{"{a_: int, a0: str}", "{a: bool, a0: str, aa: int}", "{a0: str}", "{a: bool, a_: int, a0: str, aa: int}"},
		{"{a: {b: int, c: int}, d: {}}", "{a: {b: int}}", "{a: {b: int}}", "{a: {b: int, c: int}, d: {}}"},
		{"{a: {b: int}}", "{a: {c: int}}", "{a: {}}", "{a: {b: int, c: int}}"},
		{"{a: {}}", "{a: {a: {}}}", "{a: {}}", "{a: {a: {}}}"},
		{"{a: {a: {}}}", "{a: int}", "{a: any}", "{a: none}"},
	} {
		toldTexts(t, x[0], x[1], x[2], x[3])
	}
}

// P11.1: All of no graph, of one, of two, of three and of more.
func TestAll(t *testing.T) {
	for _, x := range []struct {
		l          []string
		join, meet string
	}{
		{nil, "none", "any"},
		{[]string{"int"}, "int", "int"},
		{[]string{"none"}, "none", "none"},
		{[]string{"any"}, "any", "any"},
		{[]string{"{a: {} -> [#b {} | ..]}"}, "{a: {} -> [#b {} | ..]}", "{a: {} -> [#b {} | ..]}"},
		{[]string{"int", "int"}, "int", "int"},
		{[]string{"int", "str"}, "any", "none"},
		{[]string{"int", "int", "int"}, "int", "int"},
		{[]string{"int", "int", "str"}, "any", "none"},
		{[]string{"str", "int", "int"}, "any", "none"},
		{[]string{"none", "none", "int"}, "int", "none"},
		{[]string{"any", "int", "any"}, "any", "int"},
		{[]string{"{a: int, b: int}", "{a: int, c: int}", "{a: str, b: int}"}, "{a: any}", "{a: none, b: int, c: int}"},
		{[]string{"{a: int}", "{b: int}", "{c: int}", "{d: int}"}, "{}", "{a: int, b: int, c: int, d: int}"},
		{[]string{"[#a int]", "[#b int]", "[#c int]", "[#a str]", "[#c none]"}, "[#a any | #b int | #c int]", "[]"},
		{[]string{"[#a int | #b int]", "[..]", "[#a int | ..]"}, "[..]", "[#a int | #b int]"},
		{[]string{"[#a int]", "[#b int | ..]", "[#b str | #c int]"}, "[#b any | ..]", "[]"},
		{[]string{"int -> int", "int -> str", "str -> int"}, "none -> any", "any -> none"},
		{[]string{"{a: int}", "[#a int]", "{}"}, "any", "none"},
		{[]string{"none", "{a: int}", "none", "{a: int, b: int}", "none"}, "{a: int}", "none"},
		{[]string{"any", "{a: int}", "any", "{b: int}", "any"}, "any", "{a: int, b: int}"},
	} {
		var l []api.Graph
		for _, text := range x.l {
			l = append(l, of(t, text))
		}
		for join, want := range map[bool]string{true: x.join, false: x.meet} {
			if g, e := lattice.All(l, join); e != api.OK || !equal(g, of(t, want)) {
				t.Errorf("%v, join %v: %s, %d; it is %s", x.l, join, short(g), e, want)
			}
		}
	}
	for join, want := range map[bool]int{true: api.TNone, false: api.TAny} {
		if g, e := lattice.All([]api.Graph{}, join); e != api.OK || !equal(g, graph.Basic(want)) {
			t.Errorf("of an empty row, join %v: %s, %d", join, short(g), e)
		}
	}
}

// P11.1: All of graphs that aren't normal, one alone too.
func TestAllOfOthers(t *testing.T) {
	for _, x := range []struct {
		l          []api.Graph
		join, meet api.Graph
	}{
		{[]api.Graph{made(1, "i", "s")}, made(0, "s"), made(0, "s")},
		{[]api.Graph{made(2, "{ b:0", "s", "{ a:1 b:3", "{ b:0 c:1", "*")}, made(0, "{ a:1 b:2", "s", "{ b:3 c:1", "{ b:3"), made(0, "{ a:1 b:2", "s", "{ b:3 c:1", "{ b:3")},
		{[]api.Graph{made(0, "{ a:1", "{ a:2", "{ a:0")}, made(0, "{ a:0"), made(0, "{ a:0")},
		{[]api.Graph{made(3, "i", "i", "*", "> 0 1"), made(1, "> 0 2", "> 2 3", "i", "i")}, made(0, "> 1 1", "i"), made(0, "> 1 1", "i")},
		{[]api.Graph{made(3, "i", "i", "*", "> 0 1"), made(1, "> 0 2", "> 2 3", "i", "i"), made(1, "s", "> 2 0", "i")}, made(0, "> 1 2", "i", "*"), made(0, "> 1 2", "i", "!")},
		{[]api.Graph{made(2, "i", "i", "{"), made(1, "{ a:2 b:2", "{ a:2 b:3", "i", "i"), made(0, "{ b:1", "i", "{")}, made(0, "{"), made(0, "{ a:1 b:1", "i")},
	} {
		for join, want := range map[bool]api.Graph{true: x.join, false: x.meet} {
			if g, e := lattice.All(x.l, join); e != api.OK || !equal(g, want) {
				t.Errorf("%v, join %v: %s, %d; it is %s", x.l, join, short(g), e, short(want))
			}
		}
	}
}
