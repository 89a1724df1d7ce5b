package polar_test

import (
	"slices"
	"testing"

	"azimuth/api"
	"azimuth/graph"
	"azimuth/polar"
)

// row is a part, bounds that are told of its variables, and its automaton above a level.
type row struct {
	text   string
	bounds []string
	above  int
	want   string
}

func (x row) asked(t *testing.T) {
	t.Helper()
	w := newWorld(t, 200)
	i := w.part(x.text)
	w.bind(x.bounds...)
	if is := text(of(t, w.Arena, i, x.above), w.named); is != x.want {
		t.Errorf("%s, %q, above %d:\n%s; it is\n%s", x.text, x.bounds, x.above, is, x.want)
	}
}

func askedRows(t *testing.T, rows ...row) {
	t.Helper()
	for _, x := range rows {
		x.asked(t)
	}
}

// P15.1: the chapter's example: a function from a variable to itself: three states, the last two with that variable.
func TestExample(t *testing.T) {
	w := newWorld(t, 2)
	h := w.part("V1 -> V1")
	x, e := polar.Of(w.Arena, h, 0, 3)
	if e != api.OK || x.Root != 0 || len(x.L) != 3 {
		t.Fatal(x, e)
	}
	if !x.L[0].Plus || x.L[1].Plus || !x.L[2].Plus || len(x.L[0].Vars) > 0 || !slices.Equal(x.L[1].Vars, []int{0}) || !slices.Equal(x.L[2].Vars, []int{0}) {
		t.Error(x)
	}
	if len(x.L[0].Heads) != 1 || !equalHeads(x.L[0].Heads[0], api.Head{Kind: api.TFun, Kids: []int{1, 2}}) || len(x.L[1].Heads)+len(x.L[2].Heads) > 0 {
		t.Error(x)
	}
}

// P15.1: what README.md tells.
func TestReadme(t *testing.T) {
	w := newWorld(t, 100)
	v, i := w.part("V1"), w.part("int")
	w.bind("V1 > int")
	h := w.part("V1 -> V1")
	x, e := polar.Of(w.Arena, h, 0, api.MaxStates)
	if e != api.OK || v != 0 || i != 1 || text(x, w.named) != "+>1,2 -'V1 +'V1|i" || polar.Check(x) != api.OK || !slices.Equal(polar.Reach(x), []int{0, 1, 2}) {
		t.Error(x, e)
	}
	x, e = polar.Of(w.Arena, h, 1, api.MaxStates)
	if e != api.OK || text(x, w.named) != "+>1,2 - +i" {
		t.Error(x, e)
	}
	if _, e = polar.Of(w.Arena, h, 0, 2); e != api.ErrMany {
		t.Error(e)
	}
	x, e = polar.Closed(graph.Basic(api.TInt))
	if e != api.OK || text(x, w.named) != "+i" {
		t.Error(x, e)
	}
}

// P15.1: a head of each kind, with plus, and, where a function takes it, with minus.
func TestHeads(t *testing.T) {
	for _, x := range []struct{ text, plus, minus string }{
		{"int", "+i", "-i +f"},
		{"bool", "+b", "-b +f"},
		{"str", "+s", "-s +f"},
		{"float", "+f", "-f +f"},
		{"dyn", "+d", "-d +f"},
		{"any", "+*", "- +f"},
		{"none", "+", "-! +f"},
		{"{}", "+{", "-{ +f"},
		{"[]", "+[", "-[ +f"},
		{"[..]", "+]", "-] +f"},
		{"int -> str", "+>1,2 -i +s", "->3,4 +f +i -s"},
		{"any -> none", "+>1,2 - +", "->3,4 +f +* -!"},
		{"none -> any", "+>1,2 -! +*", "->3,4 +f + -"},
		{"{a: int}", "+{a:1 +i", "-{a:3 +f -i"},
		{"{b: int, a: str, c: none}", "+{a:1,b:2,c:3 +s +i +", "-{a:3,b:4,c:5 +f -s -i -!"},
		{"[#a int]", "+[a:1 +i", "-[a:3 +f -i"},
		{"[#of int | #a any]", "+[a:1,of:2 +* +i", "-[a:3,of:4 +f - -i"},
		{"[#a int | ..]", "+]a:1 +i", "-]a:3 +f -i"},
		{"[#b int | #a str | ..]", "+]a:1,b:2 +s +i", "-]a:3,b:4 +f -s -i"},
	} {
		askedRows(t, row{x.text, nil, 0, x.plus}, row{"(" + x.text + ") -> float", nil, 0, "+>1,2 " + x.minus})
	}
}

// P15.1: signs: of what a function takes the other one, also in what it takes itself; of all else the same.
func TestSigns(t *testing.T) {
	askedRows(t,
		row{"(int -> str) -> bool", nil, 0, "+>1,2 ->3,4 +b +i -s"},
		row{"((int -> str) -> bool) -> dyn", nil, 0, "+>1,2 ->3,4 +d +>5,6 -b -i +s"},
		row{"int -> str -> bool", nil, 0, "+>1,2 -i +>3,4 -s +b"},
		row{"{a: int -> str} -> [#a (bool -> float)]", nil, 0, "+>1,2 -{a:3 +[a:4 ->5,6 +>7,8 +i -s -b +f"},
		row{"[#a {b: [#c (int -> str) | ..]}]", nil, 0, "+[a:1 +{b:2 +]c:3 +>4,5 -i +s"},
	)
}

// P15.1: states are numbered from the root, the kids of the state with the least number first, head by head, kid by kid.
func TestNumbers(t *testing.T) {
	askedRows(t,
		row{"{a: {x: int, y: bool}, b: str -> float}", nil, 0, "+{a:1,b:2 +{x:3,y:4 +>5,6 +i +b -s +f"},
		row{"{a: {b: {c: int}}, d: bool}", nil, 0, "+{a:1,d:2 +{b:3 +b +{c:4 +i"},
		row{"V1", []string{"V1 > [#b str]", "V1 > {a: int}", "V1 > bool -> float"}, 0, "+'V1|>1,2|{a:3|[b:4 -b +f +i +s"},
		row{"{z: V1, a: W1, m: V1}", nil, 0, "+{a:1,m:2,z:2 +'W1 +'V1"},
		row{"{a: V1, b: {a: V1, b: W1}, c: W1}", nil, 0, "+{a:1,b:2,c:3 +'V1 +{a:1,b:3 +'W1"},
	)
}

// P15.1: each part is a row of its own, also where two are alike; of a graph alike heads are one part.
func TestAlikeParts(t *testing.T) {
	askedRows(t,
		row{"{a: int, b: int}", nil, 0, "+{a:1,b:2 +i +i"},
		row{"type A = int; {a: A, b: A}", nil, 0, "+{a:1,b:1 +i"},
		row{"type A = int; {a: A, b: A -> A}", nil, 0, "+{a:1,b:2 +i +>3,1 -i"},
		row{"{a: V0, b: W0}", nil, 0, "+{a:1,b:2 + +"},
		row{"{a: V0, b: W0, c: int}", []string{"V0 > W0"}, 0, "+{a:1,b:2,c:3 + + +i"},
		row{"{a: any, b: any}", nil, 0, "+{a:1,b:2 +* +*"},
	)
}

// P15.1: variables of a level above, at and below the given one, by themselves, and taken and told.
func TestLevels(t *testing.T) {
	levels := []int{0, 1, 2, 3, 1 << 40, most - 1, most}
	for _, own := range levels {
		for _, above := range append([]int{-1, -2, least, least + 1}, levels...) {
			w := newWorld(t, 3)
			v := w.ok(w.Var(own))
			h := w.ok(w.Head(api.Head{Kind: api.TFun, Kids: []int{v, v}}))
			one, both := "+", "+>1,2 - +"
			if own > above {
				one, both = "+'?0", "+>1,2 -'?0 +'?0"
			}
			if is := text(of(t, w.Arena, v, above), w.named); is != one {
				t.Errorf("of level %d, above %d: %s", own, above, is)
			}
			if is := text(of(t, w.Arena, h, above), w.named); is != both {
				t.Errorf("of level %d, above %d: %s", own, above, is)
			}
		}
	}
}

// P15.1: bounds of a variable: of plus those below it, of minus those above it.
func TestBounds(t *testing.T) {
	askedRows(t,
		row{"V1", nil, 0, "+'V1"},
		row{"V1", []string{"V1 > int"}, 0, "+'V1|i"},
		row{"V1", []string{"V1 < int"}, 0, "+'V1"},
		row{"V1", []string{"V1 > int", "V1 < str"}, 0, "+'V1|i"},
		row{"V1", []string{"V1 > str", "V1 > int", "V1 < bool"}, 0, "+'V1|i|s"},
		row{"V1 -> V1", nil, 0, "+>1,2 -'V1 +'V1"},
		row{"V1 -> V1", []string{"V1 > int"}, 0, "+>1,2 -'V1 +'V1|i"},
		row{"V1 -> V1", []string{"V1 < int"}, 0, "+>1,2 -'V1|i +'V1"},
		row{"V1 -> V1", []string{"V1 > int", "V1 < str"}, 0, "+>1,2 -'V1|s +'V1|i"},
		row{"V1 -> V1", []string{"V1 > int", "V1 < str"}, 1, "+>1,2 -s +i"},
		row{"V1 -> W1", []string{"V1 > int", "W1 < str"}, 0, "+>1,2 -'V1 +'W1"},
		row{"(V1 -> dyn) -> W1", []string{"V1 > int", "V1 < bool"}, 0, "+>1,2 ->3,4 +'W1 +'V1|i -d"},
		row{"V1", []string{"V1 > int", "V1 > bool", "V1 > str", "V1 > float", "V1 > dyn", "V1 > bool -> int", "V1 > {}", "V1 > [..]"}, 0, "+'V1|i|b|s|f|d|>1,2|{|] -b +i"},
		row{"V1 -> float", []string{"V1 < [..]", "V1 < {}", "V1 < dyn -> int", "V1 < dyn", "V1 < float", "V1 < str", "V1 < bool", "V1 < int"}, 0, "+>1,2 -'V1|i|b|s|f|d|>3,4|{|] +f +d -i"},
	)
}

// P15.1: bounds of bounds: rows are closed, through variables, also through such as count for nothing, whatever the levels; not through heads, nor through bounds on the other side.
func TestClosedRows(t *testing.T) {
	askedRows(t,
		row{"V1", []string{"V1 > W1", "W1 > U1", "U1 > int", "W1 < str"}, 0, "+'V1|'W1|'U1|i"},
		row{"V1 -> dyn", []string{"V1 < W1", "W1 < U1", "U1 < int", "W1 > str"}, 0, "+>1,2 -'V1|'W1|'U1|i +d"},
		row{"V1", []string{"V1 > W1", "W1 < U1", "U1 > int"}, 0, "+'V1|'W1"},
		row{"V1 -> dyn", []string{"V1 < W1", "W1 > U1", "U1 < int"}, 0, "+>1,2 -'V1|'W1 +d"},
		row{"V1", []string{"V1 < W1", "W1 > int"}, 0, "+'V1"},
		row{"V1 -> dyn", []string{"V1 > W1", "W1 < int"}, 0, "+>1,2 -'V1 +d"},
		row{"V0", []string{"V0 > W2", "W2 > int"}, 1, "+'W2|i"},
		row{"V0 -> V0", []string{"V0 > W2", "W2 > int", "V0 < X2", "X2 < str"}, 1, "+>1,2 -'X2|s +'W2|i"},
		row{"V3", []string{"V3 > W0", "W0 > U2", "U2 > X1", "X1 > Y2"}, 1, "+'V3|'U2|'Y2"},
		row{"V3", []string{"V3 > W0", "W0 > U2", "U2 > X1", "X1 > Y2"}, 0, "+'V3|'U2|'X1|'Y2"},
		row{"V3", []string{"V3 > W0", "W0 > U2", "U2 > X1", "X1 > Y2"}, 2, "+'V3"},
		row{"V3", []string{"V3 > W0", "W0 > U2", "U2 > X1", "X1 > bool"}, 3, "+b"},
		row{"V1", []string{"V1 > {a: W1}", "W1 > int"}, 0, "+'V1|{a:1 +'W1|i"},
		row{"V1", []string{"V1 > W1 -> W1", "W1 > int", "W1 < U1", "U1 < str"}, 0, "+'V1|>1,2 -'W1|'U1|s +'W1|i"},
		row{"V1", []string{"V1 > W1", "V1 > U1", "W1 > X1", "U1 > X1", "X1 > bool"}, 0, "+'V1|'W1|'U1|'X1|b"},
	)
}

// P15.1: variables bound by variables, round and round: those of a round have one row.
func TestRounds(t *testing.T) {
	askedRows(t,
		row{"V1", []string{"V1 > V1", "V1 < V1"}, 0, "+'V1"},
		row{"{a: V1, b: W1}", []string{"V1 > W1", "W1 > V1"}, 0, "+{a:1,b:1 +'V1|'W1"},
		row{"{a: V1, b: W1}", []string{"V1 > W1", "W1 > V1", "V1 > int"}, 0, "+{a:1,b:1 +'V1|'W1|i"},
		row{"{a: V1, b: W1}", []string{"V1 < W1", "W1 < V1"}, 0, "+{a:1,b:2 +'V1 +'W1"},
		row{"{a: V1, b: W1} -> dyn", []string{"V1 < W1", "W1 < V1"}, 0, "+>1,2 -{a:3,b:3 +d -'V1|'W1"},
		row{"{a: V1, b: W1, c: U1}", []string{"V1 > W1", "W1 > U1", "U1 > V1", "W1 > str"}, 0, "+{a:1,b:1,c:1 +'V1|'W1|'U1|s"},
		row{"{a: V1, b: W0, c: U2}", []string{"V1 > W0", "W0 > U2", "U2 > V1", "W0 > str"}, 0, "+{a:1,b:1,c:1 +'V1|'U2|s"},
		row{"{a: V0, b: W0}", []string{"V0 > W0", "W0 > V0", "W0 > str", "V0 > X1"}, 0, "+{a:1,b:1 +'X1|s"},
		row{"{a: V1, b: W1, c: U1}", []string{"V1 > W1", "W1 > V1", "V1 > U1"}, 0, "+{a:1,b:1,c:2 +'V1|'W1|'U1 +'U1"},
	)
}

// P15.1: parts that go round by heads.
func TestGoRound(t *testing.T) {
	askedRows(t,
		row{"V1", []string{"V1 > {a: V1}"}, 0, "+'V1|{a:0"},
		row{"{a: V1}", []string{"V1 > {a: V1}"}, 0, "+{a:1 +'V1|{a:1"},
		row{"V1", []string{"V1 > V1 -> V1"}, 0, "+'V1|>1,0 -'V1"},
		row{"V1", []string{"V1 > V1 -> V1"}, 1, "+>1,0 -"},
		row{"V1 -> V1", []string{"V1 < V1 -> int"}, 0, "+>1,2 -'V1|>2,3 +'V1 -i"},
		row{"V1 -> V1", []string{"V1 > W1 -> V1", "V1 < V1 -> W1", "W1 > int"}, 0, "+>1,2 -'V1|>2,3 +'V1|>3,2 -'W1"},
		row{"V0", []string{"V0 > [#a W1]", "W1 > {b: V0}", "W1 > W1"}, 0, "+[a:1 +'W1|{b:0"},
		row{"V1", []string{"V1 > {a: {a: V1}}", "V1 > {a: {a: {a: V1}}}"}, 0, "+'V1|{a:1 +{a:2 +'V1|{a:3 +'V1|{a:4 +'V1|{a:4"},
	)
}

// P15.1: heads of graphs, by themselves, as bounds, and beside others.
func TestGraphs(t *testing.T) {
	const both = "type A = {a: A, b: B -> int}; type B = [#c A | ..]; A"
	askedRows(t,
		row{both, nil, 0, "+{a:0,b:1 +>2,3 -]c:4 +i -{a:4,b:5 ->6,7 +]c:0 -i"},
		row{"type A = A -> A; A", nil, 0, "+>1,0 ->0,1"},
		row{"type A = {a: A}; A", nil, 0, "+{a:0"},
		row{"type A = {a: A}; A -> A", nil, 0, "+>1,2 -{a:1 +{a:2"},
		row{"V1", []string{"V1 > type A = {a: A}; A"}, 0, "+'V1|{a:1 +{a:1"},
		row{"V1", []string{"V1 > type A = {a: A}; A", "V1 > {a: int}"}, 0, "+'V1|{a:1 +i|{a:2 +{a:2"},
		row{"V1 -> V1", []string{"V1 > type A = {a: A}; A", "V1 < type A = {a: A}; A"}, 0, "+>1,2 -'V1|{a:3 +'V1|{a:4 -{a:3 +{a:4"},
		row{"V1", []string{"V1 > type A = {a: A}; A", "V1 > type A = {a: {a: A}, b: int}; A"}, 0, "+'V1|{a:1 +{a:2 +{a:1"},
	)
	// Of a head within a graph, too.
	w := newWorld(t, 20)
	root := w.part(both)
	if is := text(of(t, w.Arena, root+2, 0), w.named); is != "+]c:1 +{a:1,b:2 +>3,4 -]c:5 +i -{a:5,b:6 ->0,7 -i" {
		t.Error(is)
	}
}

// several is a row of heads of one kind, as bounds of a variable below it, and, where a function takes that, above it.
type several struct {
	heads       []string
	plus, minus string
}

func askedSeveral(t *testing.T, rows ...several) {
	t.Helper()
	for _, x := range rows {
		// In either order: of a row it says nothing.
		for range 2 {
			var below, above []string
			for _, head := range x.heads {
				below, above = append(below, "V1 > "+head), append(above, "V1 < "+head)
			}
			askedRows(t, row{"V1", below, 0, "+'V1|" + x.plus}, row{"V1 -> dyn", above, 0, "+>1,2 -'V1|" + x.minus})
			askedRows(t, row{"V1", below, 1, "+" + x.plus}, row{"V1 -> dyn", above, 1, "+>1,2 -" + x.minus})
			slices.Reverse(x.heads)
		}
	}
}

// P15.1: rows of several functions: kids are rows, of what they take with the other sign, of what they tell with the same.
func TestFunctions(t *testing.T) {
	askedSeveral(t,
		several{[]string{"int -> str", "bool -> float"}, ">1,2 -i|b +s|f", ">3,4 +d +i|b -s|f"},
		several{[]string{"int -> int", "int -> float", "str -> none"}, ">1,2 -i|s +i|f", ">3,4 +d +i|s -!"},
		several{[]string{"int -> any", "none -> float"}, ">1,2 -! +*", ">3,4 +d +i -f"},
		several{[]string{"any -> int", "str -> any"}, ">1,2 -s +*", ">3,4 +d +* -i"},
		several{[]string{"(int -> bool) -> str", "(str -> bool) -> {a: int}"}, ">1,2 ->3,4 +s|{a:5 +i|s -b +i", ">3,4 +d +>5,6 -s|{a:7 -i|s +b -i"},
	)
	askedRows(t,
		row{"V1", []string{"V1 > W1 -> W1", "V1 > U1 -> int", "W1 < U1", "U1 < str", "W1 > bool"}, 0, "+'V1|>1,2 -'W1|'U1|s +'W1|i|b"},
		row{"V1 -> dyn", []string{"V1 < W1 -> W1", "V1 < U1 -> int", "W1 > U1", "U1 > str", "W1 < bool"}, 0, "+>1,2 -'V1|>3,4 +d +'W1|'U1|s -'W1|i|b"},
	)
}

// P15.1: rows of several records: with plus the names that all have, with minus all names; each the row of all kids of that name.
func TestRecords(t *testing.T) {
	askedSeveral(t,
		several{[]string{"{a: int, b: int}", "{b: str, c: str}"}, "{b:1 +i|s", "{a:3,b:4,c:5 +d -i -i|s -s"},
		several{[]string{"{a: int}", "{a: str}"}, "{a:1 +i|s", "{a:3 +d -i|s"},
		several{[]string{"{a: int}", "{b: str}"}, "{", "{a:3,b:4 +d -i -s"},
		several{[]string{"{}", "{a: int}"}, "{", "{a:3 +d -i"},
		several{[]string{"{}", "{}"}, "{", "{ +d"},
		several{[]string{"{a: int, b: int}", "{a: str, c: str}", "{a: bool, b: bool, c: bool}"}, "{a:1 +i|b|s", "{a:3,b:4,c:5 +d -i|b|s -i|b -b|s"},
		several{[]string{"{a: int, b: int, c: int}", "{b: str, c: str, d: str}", "{c: bool, d: bool, b: bool}"}, "{b:1,c:2 +i|b|s +i|b|s", "{a:3,b:4,c:5,d:6 +d -i -i|b|s -i|b|s -b|s"},
		several{[]string{"{a: any, b: none}", "{a: int, b: int}"}, "{a:1,b:2 +* +i", "{a:3,b:4 +d -i -!"},
		several{[]string{"{a: int -> str}", "{a: bool -> float, b: int}"}, "{a:1 +>2,3 -i|b +s|f", "{a:3,b:4 +d ->5,6 -i +i|b -s|f"},
	)
	askedRows(t,
		row{"V1", []string{"V1 > {a: W1, b: int}", "V1 > {a: U1}", "U1 > X1", "W1 < str"}, 0, "+'V1|{a:1 +'W1|'U1|'X1"},
		row{"V1 -> dyn", []string{"V1 < {a: W1, b: int}", "V1 < {a: U1}", "U1 > X1", "W1 < str"}, 0, "+>1,2 -'V1|{a:3,b:4 +d -'W1|'U1|s -i"},
		// What stands in no state isn't come to.
		row{"V1", []string{"V1 > {a: {b: int}}", "V1 > {c: {d: int}}"}, 0, "+'V1|{"},
	)
}

// P15.1: rows of several variants, not open, open, and both: their names with plus and with minus.
func TestVariants(t *testing.T) {
	askedSeveral(t,
		// none is open
		several{[]string{"[#a int]", "[#b str]"}, "[a:1,b:2 +i +s", "[ +d"},
		several{[]string{"[#a int | #b int]", "[#b str | #c str]"}, "[a:1,b:2,c:3 +i +i|s +s", "[b:3 +d -i|s"},
		several{[]string{"[]", "[#a int]"}, "[a:1 +i", "[ +d"},
		several{[]string{"[]", "[]"}, "[", "[ +d"},
		several{[]string{"[#a int | #b int]", "[#b str | #a str]", "[#b bool]"}, "[a:1,b:2 +i|s +i|b|s", "[b:3 +d -i|b|s"},
		// one is
		several{[]string{"[#a int | #b int | ..]", "[#b str | #c str]"}, "]a:1,b:2 +i +i|s", "[b:3,c:4 +d -i|s -s"},
		several{[]string{"[..]", "[#a int]"}, "]", "[a:3 +d -i"},
		several{[]string{"[]", "[#a int | ..]"}, "]a:1 +i", "[ +d"},
		several{[]string{"[]", "[..]"}, "]", "[ +d"},
		several{[]string{"[#a int | #b int | ..]", "[#b str | #c str]", "[#b bool | #d bool]"}, "]a:1,b:2 +i +i|b|s", "[b:3 +d -i|b|s"},
		several{[]string{"[#a int | ..]", "[#b str | #c str]", "[#c bool | #d bool]"}, "]a:1 +i", "[c:3 +d -b|s"},
		// some are
		several{[]string{"[#a int | #b int | ..]", "[#b str | ..]", "[#a bool | #b bool | #c bool]"}, "]b:1 +i|b|s", "[a:3,b:4,c:5 +d -i|b -i|b|s -b"},
		several{[]string{"[#a int | ..]", "[#b str | ..]", "[#a bool | #b bool]"}, "]", "[a:3,b:4 +d -i|b -b|s"},
		several{[]string{"[#a int | ..]", "[#a str | ..]", "[#b bool]", "[#b float | #a float]"}, "]a:1 +i|s|f", "[b:3 +d -b|f"},
		// all are
		several{[]string{"[#a int | #b int | ..]", "[#b str | #c str | ..]"}, "]b:1 +i|s", "]a:3,b:4,c:5 +d -i -i|s -s"},
		several{[]string{"[..]", "[#a int | ..]"}, "]", "]a:3 +d -i"},
		several{[]string{"[..]", "[..]"}, "]", "] +d"},
		several{[]string{"[#a int | ..]", "[#b str | ..]"}, "]", "]a:3,b:4 +d -i -s"},
		several{[]string{"[#a int | #b int | ..]", "[#b str | #a str | ..]", "[#b bool | #c bool | ..]"}, "]b:1 +i|b|s", "]a:3,b:4,c:5 +d -i|s -i|b|s -b"},
		// kids that are any, or none, are kids as others are
		several{[]string{"[#a any | ..]", "[#a int]"}, "]a:1 +*", "[a:3 +d -i"},
		several{[]string{"[#a none]", "[#b int]"}, "[a:1,b:2 + +i", "[ +d"},
	)
	askedRows(t,
		row{"V1", []string{"V1 > [#a W1 | ..]", "V1 > [#a U1 | #b int]", "U1 > X1", "W1 < str"}, 0, "+'V1|]a:1 +'W1|'U1|'X1"},
		row{"V1 -> dyn", []string{"V1 < [#a W1 | ..]", "V1 < [#a U1 | #b int]", "U1 > X1", "W1 < str"}, 0, "+>1,2 -'V1|[a:3,b:4 +d -'W1|'U1|s -i"},
	)
}

// P15.1: a record and a variant of one name are two heads.
func TestKindsApart(t *testing.T) {
	askedRows(t,
		row{"V1", []string{"V1 > [#a int]", "V1 > {a: str}", "V1 > {a: bool}", "V1 > [#a float | ..]"}, 0, "+'V1|{a:1|]a:2 +b|s +i|f"},
		row{"V1 -> dyn", []string{"V1 < [#a int]", "V1 < {a: str}", "V1 < {b: bool}", "V1 < [#a float | ..]"}, 0, "+>1,2 -'V1|{a:3,b:4|[a:5 +d -s -b -i|f"},
	)
}

// P15.1: any and none among others: the one is alone, without variables, the other one counts for nothing.
func TestAnyAndNone(t *testing.T) {
	askedRows(t,
		row{"V1", []string{"V1 > any"}, 0, "+*"},
		row{"V1", []string{"V1 > none"}, 0, "+'V1"},
		row{"V1", []string{"V1 > int", "V1 > any"}, 0, "+*"},
		row{"V1", []string{"V1 > int", "V1 > none"}, 0, "+'V1|i"},
		row{"V1", []string{"V1 > any", "V1 > none"}, 0, "+*"},
		row{"V1", []string{"V1 > {a: int}", "V1 > any", "V1 > int -> str"}, 0, "+*"},
		row{"V1", []string{"V1 > {a: int}", "V1 > none", "V1 > [..]"}, 0, "+'V1|{a:1|] +i"},
		row{"V1", []string{"V1 > W1", "W1 > any", "W1 > {a: V1}"}, 0, "+*"},
		row{"V0", []string{"V0 > any"}, 0, "+*"},
		row{"V0", []string{"V0 > none"}, 0, "+"},
		row{"V1", []string{"V1 < any", "V1 < none"}, 0, "+'V1"},
		row{"V1 -> dyn", []string{"V1 < any"}, 0, "+>1,2 -'V1 +d"},
		row{"V1 -> dyn", []string{"V1 < none"}, 0, "+>1,2 -! +d"},
		row{"V1 -> dyn", []string{"V1 < int", "V1 < any"}, 0, "+>1,2 -'V1|i +d"},
		row{"V1 -> dyn", []string{"V1 < int", "V1 < none"}, 0, "+>1,2 -! +d"},
		row{"V1 -> dyn", []string{"V1 < any", "V1 < none"}, 0, "+>1,2 -! +d"},
		row{"V1 -> dyn", []string{"V1 < {a: int}", "V1 < none", "V1 < int -> str"}, 0, "+>1,2 -! +d"},
		row{"V1 -> dyn", []string{"V1 < {a: int}", "V1 < any", "V1 < [..]"}, 0, "+>1,2 -'V1|{a:3|] +d -i"},
		row{"V1 -> dyn", []string{"V1 < W1", "W1 < none", "W1 < {a: V1}"}, 0, "+>1,2 -! +d"},
		row{"V0 -> dyn", []string{"V0 < none"}, 0, "+>1,2 -! +d"},
		row{"V0 -> dyn", []string{"V0 < any"}, 0, "+>1,2 - +d"},
		row{"V1 -> dyn", []string{"V1 > any", "V1 > none"}, 0, "+>1,2 -'V1 +d"},
	)
}

// P15.1: a row that is come to with both signs is two states; one that is come to by two ways is one.
func TestWays(t *testing.T) {
	askedRows(t,
		row{"{a: V1, b: V1 -> V1}", nil, 0, "+{a:1,b:2 +'V1 +>3,1 -'V1"},
		row{"(V1 -> W1) -> W1 -> V1", nil, 0, "+>1,2 ->3,4 +>4,3 +'V1 -'W1"},
		row{"{a: V1, b: V1, c: {d: V1}}", nil, 0, "+{a:1,b:1,c:2 +'V1 +{d:1"},
		row{"{a: X1, b: V1}", []string{"X1 > {a: V1}", "X1 > {a: W1}", "V1 > W1"}, 0, "+{a:1,b:2 +'X1|{a:2 +'V1|'W1"},
		row{"{a: V1, b: X1}", []string{"X1 > {a: W1}", "X1 > {a: V1}", "V1 > W1"}, 0, "+{a:1,b:2 +'V1|'W1 +'X1|{a:1"},
		row{"{a: V0, b: W0}", []string{"V0 > U1", "W0 > U1"}, 0, "+{a:1,b:2 +'U1 +'U1"},
		// Rows of which one is a beginning of the other one.
		row{"{a: V1, b: W1, c: U1}", []string{"U1 > V1", "U1 > W1", "V1 > W1"}, 0, "+{a:1,b:2,c:3 +'V1|'W1 +'W1 +'V1|'W1|'U1"},
	)
	// The same kid of two alike functions that aren't one part.
	w := newWorld(t, 20)
	v := w.part("V1")
	one := w.ok(w.Head(api.Head{Kind: api.TFun, Kids: []int{v, v}}))
	other := w.ok(w.Head(api.Head{Kind: api.TFun, Kids: []int{v, v}}))
	for _, x := range []struct {
		kids []int
		want string
	}{{[]int{one, one}, "+{a:1,b:1 +>2,3 -'V1 +'V1"}, {[]int{one, other}, "+{a:1,b:2 +>3,4 +>3,4 -'V1 +'V1"}} {
		h := w.ok(w.Head(api.Head{Kind: api.TRecord, Names: []string{"a", "b"}, Kids: x.kids}))
		if is := text(of(t, w.Arena, h, 0), w.named); is != x.want {
			t.Error(is)
		}
	}
}

// P15.1: what is done to the arena behind an automaton is told by the next one.
func TestAgain(t *testing.T) {
	w := newWorld(t, 40)
	h := w.part("V1 -> V1")
	for _, x := range []struct{ bound, want string }{
		{"V1 > int", "+>1,2 -'V1 +'V1|i"},
		{"V1 < W1", "+>1,2 -'V1|'W1 +'V1|i"},
		{"W1 < str", "+>1,2 -'V1|'W1|s +'V1|i"},
		{"W1 > bool", "+>1,2 -'V1|'W1|s +'V1|i"},
		{"V1 > W1", "+>1,2 -'V1|'W1|s +'V1|'W1|i|b"},
		{"V1 > any", "+>1,2 -'V1|'W1|s +*"},
	} {
		w.bind(x.bound)
		if is := text(of(t, w.Arena, h, 0), w.named); is != x.want {
			t.Errorf("with %s: %s; it is %s", x.bound, is, x.want)
		}
	}
}
