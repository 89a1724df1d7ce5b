package tree

import (
	"math"
	"regexp"
	"slices"
	"strings"
	"testing"
	"unicode/utf8"

	"azimuth/api"
)

const oneNone = 0x7ff8000000000001

// around is a tree whose whole is a term with so many kids and types beside those that it has.
func around(n api.Node, kids, types int) api.Tree {
	var t api.Tree
	for i := range kids {
		t.Nodes = append(t.Nodes, api.Node{Kind: api.Int})
		n.Kids = append(n.Kids, i)
	}
	for i := range types {
		t.Types = append(t.Types, api.TypeNode{Kind: api.TInt})
		n.Types = append(n.Types, i)
	}
	t.Nodes = append(t.Nodes, n)
	return t
}

// aroundType is a tree with a type that has so many kids.
func aroundType(n api.TypeNode, kids int) api.Tree {
	t := api.Tree{Nodes: []api.Node{{Kind: api.Int}, {Kind: api.Ascribe, Kids: []int{0}, Types: []int{kids}}}}
	for i := range kids {
		t.Types = append(t.Types, api.TypeNode{Kind: api.TBool})
		n.Kids = append(n.Kids, i)
	}
	t.Types = append(t.Types, n)
	return t
}

// may looks whether a tree may be; what says which one it is.
func may(t *testing.T, what any, x api.Tree) {
	t.Helper()
	if e := Check(x); e != api.OK {
		t.Errorf("%v is refused: %d", what, e)
	}
	if !Same(x, x) || Depth(x) < 1 {
		t.Errorf("%v: Same %v, Depth %d", what, Same(x, x), Depth(x))
	}
}

// mayNot looks whether a tree may not be, and nothing else is told of it.
func mayNot(t *testing.T, what any, x api.Tree) {
	t.Helper()
	if e := Check(x); e != api.ErrForm {
		t.Errorf("%v: %d", what, e)
	}
	if Same(x, x) || Same(x, good()) || Same(good(), x) || Depth(x) != 0 {
		t.Errorf("%v: Same, or Depth %d", what, Depth(x))
	}
	for _, root := range []int{0, len(x.Nodes) - 1} {
		if l := slices.Collect(Walk(x, root)); len(l) != 0 {
			t.Errorf("%v: Walk of %d: %v", what, root, l)
		}
	}
}

func good() api.Tree { return around(api.Node{Kind: api.Int}, 0, 0) }

// example is a term of a kind with what it asks.
type example struct {
	node        api.Node
	kids, types int
}

func examples() []example {
	l := []example{
		{node: api.Node{Kind: api.Var, Name: "x"}},
		{node: api.Node{Kind: api.Int}},
		{node: api.Node{Kind: api.Int, Int: 5}},
		{node: api.Node{Kind: api.Int, Int: math.MaxInt64}},
		{node: api.Node{Kind: api.Bool}},
		{node: api.Node{Kind: api.Bool, Int: 1}},
		{node: api.Node{Kind: api.Str}},
		{node: api.Node{Kind: api.Str, Name: "let \"\\ \x7f\n\u20ac\U0010ffff\ufffd"}},
		{node: api.Node{Kind: api.Float}},
		{node: api.Node{Kind: api.Float, Bits: 0x3ff0000000000000}},
		{node: api.Node{Kind: api.Float, Bits: oneNone}},
		{node: api.Node{Kind: api.Float, Bits: 0x7ff0000000000000}},
		{node: api.Node{Kind: api.Float, Bits: 0xfff0000000000000}},
		{node: api.Node{Kind: api.Float, Bits: 1 << 63}},
		{node: api.Node{Kind: api.Float, Bits: 1}},
		{node: api.Node{Kind: api.Fun, Name: "x"}, kids: 1},
		{node: api.Node{Kind: api.App}, kids: 2},
		{node: api.Node{Kind: api.Let, Name: "x"}, kids: 2},
		{node: api.Node{Kind: api.LetRec, Name: "x"}, kids: 2}, // that its first kid is a Fun isn't asked here
		{node: api.Node{Kind: api.If}, kids: 3},
		{node: api.Node{Kind: api.Case}, kids: 1},
		{node: api.Node{Kind: api.Case}, kids: 2},
		{node: api.Node{Kind: api.Case, Names: []string{"a", "x"}}, kids: 2},
		{node: api.Node{Kind: api.Case, Names: []string{"let", "x"}}, kids: 3},
		{node: api.Node{Kind: api.Case, Names: []string{"a", "a", "b", "a", "of", "_"}}, kids: 4}, // names may be there again
		{node: api.Node{Kind: api.Case, Names: []string{"a", "b", "b", "a"}}, kids: 4},
		{node: api.Node{Kind: api.Tag, Name: "a"}, kids: 1},
		{node: api.Node{Kind: api.Tag, Name: "case"}, kids: 1},
		{node: api.Node{Kind: api.Record}},
		{node: api.Node{Kind: api.Record, Names: []string{"b", "a", "c0"}}, kids: 3}, // as they are written
		{node: api.Node{Kind: api.Select, Name: "a"}, kids: 1},
		{node: api.Node{Kind: api.Ascribe}, kids: 1, types: 1},
		{node: api.Node{Kind: api.Cast}, kids: 1, types: 2},
	}
	for _, op := range strings.Fields("+ - * / +. -. *. /. < <. == ^") {
		l = append(l, example{node: api.Node{Kind: api.Op, Name: op}, kids: 2})
	}
	return l
}

// asks: is the kind one of these?
func asks(kind int, kinds ...int) bool { return slices.Contains(kinds, kind) }

// P4.1: each kind of term, with what it asks, and without, and with what it doesn't ask.
func TestKindsOfTerms(t *testing.T) {
	met := map[int]bool{}
	for _, x := range examples() {
		met[x.node.Kind] = true
		may(t, x, around(x.node, x.kids, x.types))
		for kids := range 6 {
			other := asks(x.node.Kind, api.Case) && (kids == len(x.node.Names)/2+1 || kids == len(x.node.Names)/2+2)
			if kids != x.kids && !other {
				mayNot(t, x, around(x.node, kids, x.types))
			}
		}
		for types := range 5 {
			if types != x.types {
				mayNot(t, x, around(x.node, x.kids, types))
			}
		}
		wrong := func(do func(n *api.Node)) {
			t.Helper()
			n := x.node
			do(&n)
			mayNot(t, n, around(n, x.kids, x.types))
		}
		if asks(x.node.Kind, api.Var, api.Fun, api.Let, api.LetRec, api.Tag, api.Select, api.Op) {
			wrong(func(n *api.Node) { n.Name = "" })
		} else if !asks(x.node.Kind, api.Str) {
			wrong(func(n *api.Node) { n.Name = "x" })
			wrong(func(n *api.Node) { n.Name = "\x00" })
		}
		if !asks(x.node.Kind, api.Int, api.Bool) {
			wrong(func(n *api.Node) { n.Int = 1 })
		}
		for _, i := range []int64{-1, math.MinInt64} {
			wrong(func(n *api.Node) { n.Int = i })
		}
		if !asks(x.node.Kind, api.Float) {
			wrong(func(n *api.Node) { n.Bits = 1 })
			wrong(func(n *api.Node) { n.Bits = oneNone })
		}
		if !asks(x.node.Kind, api.Case, api.Record) {
			wrong(func(n *api.Node) { n.Names = []string{"q"} })
			wrong(func(n *api.Node) { n.Names = []string{""} })
			wrong(func(n *api.Node) { n.Names = []string{"q", "r"} })
		}
		for _, kind := range []int{-1, api.Kinds, api.Kinds + 1, math.MaxInt, math.MinInt} {
			wrong(func(n *api.Node) { n.Kind = kind })
		}
	}
	for kind := range api.Kinds {
		if !met[kind] {
			t.Error("no example of kind", kind)
		}
	}
}

// P4.1: what stands in a term's fields.
func TestFieldsOfTerms(t *testing.T) {
	notNames := []string{"", "A", "let", "end", "0", "a b", " a", "a ", "#a", "a.b", "f'", "a\n", "\u00e4", "\xff", "a\xff", "a\x00", "\"a\""}
	for _, kind := range []int{api.Var, api.Fun, api.Let, api.LetRec, api.Select} {
		kids := map[int]int{api.Var: 0, api.Fun: 1, api.Let: 2, api.LetRec: 2, api.Select: 1}[kind]
		for _, s := range []string{"a", "_", "z_9", "lets", strings.Repeat("a", 300)} {
			may(t, s, around(api.Node{Kind: kind, Name: s}, kids, 0))
		}
		for _, s := range notNames {
			mayNot(t, s, around(api.Node{Kind: kind, Name: s}, kids, 0))
		}
	}
	for _, s := range notNames {
		if s == "let" || s == "end" {
			continue
		}
		mayNot(t, s, around(api.Node{Kind: api.Tag, Name: s}, 1, 0))
		mayNot(t, s, around(api.Node{Kind: api.Case, Names: []string{s, "x"}}, 2, 0))
	}
	for _, s := range notNames {
		mayNot(t, s, around(api.Node{Kind: api.Case, Names: []string{"a", s}}, 2, 0))
		mayNot(t, s, around(api.Node{Kind: api.Case, Names: []string{"a", "x", "b", s}}, 3, 0))
		mayNot(t, s, around(api.Node{Kind: api.Record, Names: []string{s}}, 1, 0))
		mayNot(t, s, around(api.Node{Kind: api.Record, Names: []string{"a", s}}, 2, 0))
	}
	for _, i := range []int64{2, 3, -2, math.MaxInt64, 1 << 32} {
		mayNot(t, i, around(api.Node{Kind: api.Bool, Int: i}, 0, 0))
	}
	for _, s := range []string{"", "++", "=", "=>", ">", ">.", "<=", "-.-", ".", "..", "+ ", " +", "+.+", "^.", "==.", "a", "add", "&", "%", "\xff", "(", "->"} {
		mayNot(t, s, around(api.Node{Kind: api.Op, Name: s}, 2, 0))
	}
	for _, bits := range []uint64{0x7ff8000000000000, 0x7ff8000000000002, 0x7ff0000000000001, 0xfff8000000000001, 0xffffffffffffffff, 0x7fffffffffffffff, 0xfff0000000000001} {
		mayNot(t, bits, around(api.Node{Kind: api.Float, Bits: bits}, 0, 0))
	}
	for c := range 128 {
		x := around(api.Node{Kind: api.Str, Name: "a" + string(rune(c)) + "b"}, 0, 0)
		if c < 32 && c != '\n' {
			mayNot(t, c, x)
		} else {
			may(t, c, x)
		}
	}
	for _, s := range []string{"\xff", "a\x80", "\xc0\x80", "\xed\xa0\x80", "\xf4\x90\x80\x80", "\u20ac\xe2\x82", "\n\xfe"} {
		mayNot(t, s, around(api.Node{Kind: api.Str, Name: s}, 0, 0))
	}
	may(t, "long", around(api.Node{Kind: api.Str, Name: strings.Repeat("a", api.MaxText+1)}, 0, 0))
	for _, pos := range []int{-1, 1, math.MaxInt, math.MinInt} { // a place is any number
		may(t, pos, around(api.Node{Kind: api.Int, Pos: pos}, 0, 0))
		may(t, pos, aroundType(api.TypeNode{Kind: api.TInt, Pos: pos}, 0))
	}
}

// P4.1: names of Cases and Records, by turns, once, and as many as there are kids.
func TestNamesOfTerms(t *testing.T) {
	for _, x := range []example{
		{node: api.Node{Names: []string{"a"}}, kids: 1},
		{node: api.Node{Names: []string{"a"}}, kids: 2},
		{node: api.Node{Names: []string{"a"}}, kids: 3},
		{node: api.Node{Names: []string{"a", "x", "b"}}, kids: 2},
		{node: api.Node{Names: []string{"a", "x", "b"}}, kids: 3},
		{node: api.Node{Names: []string{"a", "x", "b"}}, kids: 4},
		{node: api.Node{Names: []string{"a", "x", "a", "y"}}, kids: 3},
		{node: api.Node{Names: []string{"a", "x", "a", "y"}}, kids: 4},
		{node: api.Node{Names: []string{"let", "x", "let", "y"}}, kids: 3},
		{node: api.Node{Names: []string{"a", "x", "b", "x", "a", "x"}}, kids: 4},
		{node: api.Node{Names: []string{"a", "x", "b", "y"}}, kids: 2},
		{node: api.Node{Names: []string{"a", "x", "b", "y"}}, kids: 5},
		{node: api.Node{Names: []string{"x", "let"}}, kids: 2},
		{node: api.Node{}, kids: 0},
		{node: api.Node{}, kids: 3},
	} {
		x.node.Kind = api.Case
		mayNot(t, x, around(x.node, x.kids, 0))
	}
	for _, x := range []example{
		{node: api.Node{Names: []string{"a", "a"}}, kids: 2},
		{node: api.Node{Names: []string{"a", "b", "a"}}, kids: 3},
		{node: api.Node{Names: []string{"a", "a"}}, kids: 1},
		{node: api.Node{Names: []string{"a", "b"}}, kids: 1},
		{node: api.Node{Names: []string{"a", "b"}}, kids: 3},
		{node: api.Node{Names: []string{"a"}}, kids: 0},
		{node: api.Node{}, kids: 1},
	} {
		x.node.Kind = api.Record
		mayNot(t, x, around(x.node, x.kids, 0))
	}
}

// P4.1: each kind of type, with what it asks, and without, and with what it doesn't ask.
func TestKindsOfTypes(t *testing.T) {
	type one struct {
		node api.TypeNode
		kids int
	}
	l := []one{
		{api.TypeNode{Kind: api.TFun}, 2},
		{api.TypeNode{Kind: api.TRecord}, 0},
		{api.TypeNode{Kind: api.TRecord, Names: []string{"b", "a"}}, 2},
		{api.TypeNode{Kind: api.TVariant}, 0},
		{api.TypeNode{Kind: api.TVariant, Open: true}, 0},
		{api.TypeNode{Kind: api.TVariant, Names: []string{"let", "a", "of"}}, 3},
		{api.TypeNode{Kind: api.TVariant, Names: []string{"b", "a"}, Open: true}, 2},
		{api.TypeNode{Kind: api.TAlias, Name: "A"}, 0}, // that it stands for something isn't asked here
		{api.TypeNode{Kind: api.TAlias, Name: "Zz09A"}, 0},
	}
	for kind := api.TInt; kind <= api.TNone; kind++ {
		l = append(l, one{node: api.TypeNode{Kind: kind}})
	}
	met := map[int]bool{}
	for _, x := range l {
		met[x.node.Kind] = true
		may(t, x, aroundType(x.node, x.kids))
		for kids := range 5 {
			if kids != x.kids {
				mayNot(t, x, aroundType(x.node, kids))
			}
		}
		wrong := func(do func(n *api.TypeNode)) {
			t.Helper()
			n := x.node
			do(&n)
			mayNot(t, n, aroundType(n, x.kids))
		}
		if x.node.Kind == api.TAlias {
			for _, s := range []string{"", "a", "_A", "0A", "A_", "A b", " A", "A ", "A//", "A\n", "A.", "#A", "A\xff", "\u00c4", "A\u00e4", "let", "A\x00", "A/", "A:", "A@", "A[", "A`", "A{", "@", "["} {
				wrong(func(n *api.TypeNode) { n.Name = s })
			}
		} else {
			wrong(func(n *api.TypeNode) { n.Name = "A" })
			wrong(func(n *api.TypeNode) { n.Name = "a" })
		}
		if !asks(x.node.Kind, api.TRecord, api.TVariant) {
			wrong(func(n *api.TypeNode) { n.Names = []string{"a"} })
			wrong(func(n *api.TypeNode) { n.Names = []string{"a", "b"} })
		}
		if x.node.Kind != api.TVariant {
			wrong(func(n *api.TypeNode) { n.Open = true })
		}
		for _, kind := range []int{-1, api.TKinds, api.TKinds + 1, math.MaxInt, math.MinInt} {
			wrong(func(n *api.TypeNode) { n.Kind = kind })
		}
	}
	if len(met) != api.TKinds {
		t.Error(met)
	}
	for _, kind := range []int{api.TRecord, api.TVariant} {
		for _, names := range [][]string{{"a", "a"}, {"a", "b", "a"}, {""}, {"A"}, {"a", "B"}, {"a b"}, {"#a"}, {"\xff"}, {"0"}} {
			mayNot(t, names, aroundType(api.TypeNode{Kind: kind, Names: names}, len(names)))
		}
		for _, kids := range []int{0, 1, 3} {
			mayNot(t, kids, aroundType(api.TypeNode{Kind: kind, Names: []string{"a", "b"}}, kids))
		}
	}
	mayNot(t, "a word", aroundType(api.TypeNode{Kind: api.TRecord, Names: []string{"let"}}, 1))
	mayNot(t, "a word twice", aroundType(api.TypeNode{Kind: api.TVariant, Names: []string{"let", "let"}}, 2))
}

// P4.1: a tree needs a term, and has room for just so many terms and types.
func TestSizes(t *testing.T) {
	mayNot(t, "nothing", api.Tree{})
	mayNot(t, "empty", api.Tree{Nodes: []api.Node{}, Types: []api.TypeNode{}, Aliases: []api.Alias{}})
	mayNot(t, "an alias alone", api.Tree{Types: []api.TypeNode{{}}, Aliases: []api.Alias{{Name: "A"}}})
	mayNot(t, "a type alone", api.Tree{Types: []api.TypeNode{{}}})
	for _, n := range []int{1, 2, api.MaxNodes - 1, api.MaxNodes} {
		may(t, n, chain(n))
		may(t, n, typeChain(n, true))
		may(t, n, typeChain(n, false))
		may(t, n, around(api.Node{Kind: api.Record, Names: manyNames(n - 1)}, n-1, 0))
		may(t, n, aroundType(api.TypeNode{Kind: api.TVariant, Names: manyNames(n - 1)}, n-1))
		may(t, n, manyAliases(n))
	}
	for _, n := range []int{api.MaxNodes + 1, api.MaxNodes + 2, 2 * api.MaxNodes} {
		mayNot(t, n, chain(n))
		mayNot(t, n, typeChain(n, true))
		mayNot(t, n, typeChain(n, false))
		mayNot(t, n, around(api.Node{Kind: api.Record, Names: manyNames(n - 1)}, n-1, 0))
		mayNot(t, n, aroundType(api.TypeNode{Kind: api.TVariant, Names: manyNames(n - 1)}, n-1))
		mayNot(t, n, manyAliases(n))
	}
	both := chain(api.MaxNodes)
	types := typeChain(api.MaxNodes, false)
	both.Types, both.Aliases = types.Types, types.Aliases
	may(t, "both full", both)
}

// chain is a row of so many terms, each in the next one.
func chain(n int) api.Tree {
	t := api.Tree{Nodes: []api.Node{{Kind: api.Int}}}
	for i := range n - 1 {
		t.Nodes = append(t.Nodes, api.Node{Kind: api.Fun, Name: "x", Kids: []int{i}})
	}
	return t
}

// typeChain is a row of so many types, each in the next one; the last one is a term's, or an alias's.
func typeChain(n int, ofTerm bool) api.Tree {
	t := api.Tree{Nodes: []api.Node{{Kind: api.Int}}, Types: []api.TypeNode{{}}}
	for i := range n - 1 {
		t.Types = append(t.Types, api.TypeNode{Kind: api.TRecord, Names: []string{"a"}, Kids: []int{i}})
	}
	if ofTerm {
		t.Nodes = append(t.Nodes, api.Node{Kind: api.Ascribe, Kids: []int{0}, Types: []int{n - 1}})
	} else {
		t.Aliases = []api.Alias{{Name: "A", Type: n - 1}}
	}
	return t
}

func manyNames(n int) []string {
	var l []string
	for i := range n {
		l = append(l, "a"+string([]byte{'a' + byte(i%26), 'a' + byte(i/26%26), 'a' + byte(i/676%26), 'a' + byte(i/17576)}))
	}
	return l
}

func manyAliases(n int) api.Tree {
	t := good()
	for i := range n {
		t.Types = append(t.Types, api.TypeNode{Kind: api.TStr})
		t.Aliases = append(t.Aliases, api.Alias{Name: "A", Type: i}) // that a name is borne twice isn't asked here
	}
	return t
}

// P4.1: kids have lesser numbers, and each is a kid once.
func TestKids(t *testing.T) {
	app := func(kids ...int) api.Node { return api.Node{Kind: api.App, Kids: kids} }
	fun := func(kid int) api.Node { return api.Node{Kind: api.Fun, Name: "x", Kids: []int{kid}} }
	leaf := api.Node{Kind: api.Var, Name: "x"}
	record := func(kids ...int) api.Node {
		return api.Node{Kind: api.Record, Names: manyNames(len(kids)), Kids: kids}
	}
	for _, l := range [][]api.Node{
		{leaf},
		{leaf, fun(0)},
		{leaf, leaf, app(0, 1)},
		{leaf, leaf, app(1, 0)},
		{leaf, leaf, fun(0), app(2, 1)},
		{leaf, leaf, fun(1), fun(0), app(2, 3)},
		{leaf, fun(0), leaf, app(2, 1), fun(3)},
		{leaf, leaf, leaf, record(2, 0, 1)},
		{leaf, record(0), record(), app(1, 2)},
	} {
		may(t, l, api.Tree{Nodes: l})
	}
	for _, l := range [][]api.Node{
		// Its own number, a greater one, one below 0, one that isn't there.
		{fun(0)}, {fun(-1)}, {fun(1)}, {fun(math.MaxInt)}, {fun(math.MinInt)},
		{leaf, fun(1)}, {leaf, fun(2)}, {leaf, fun(-1)},
		{leaf, leaf, app(0, -1)}, {leaf, leaf, app(0, 2)}, {leaf, leaf, app(0, 3)},
		{fun(1), leaf, app(0, 1)}, {fun(1), leaf, fun(0)}, {fun(2), leaf, fun(1)},
		{fun(1), fun(0)}, {leaf, fun(2), fun(1), app(0, 2)},
		// The same, apart from the whole.
		{fun(0), leaf}, {leaf, fun(1), fun(0)}, {fun(1), fun(0), leaf}, {leaf, fun(2), fun(1), fun(0)},
		// A kid of none.
		{leaf, leaf}, {leaf, leaf, fun(0)}, {leaf, leaf, fun(1)}, {leaf, fun(0), leaf}, {leaf, fun(0), leaf, fun(2)}, {leaf, record()},
		// A kid of two.
		{leaf, fun(0), fun(0)}, {leaf, fun(0), fun(0), app(1, 2)}, {leaf, leaf, fun(0), app(0, 1)}, {leaf, fun(0), app(0, 1)},
		// A kid of one twice.
		{leaf, app(0, 0)}, {leaf, leaf, app(0, 0)}, {leaf, leaf, app(1, 1)}, {leaf, leaf, record(0, 1, 0)}, {leaf, fun(0), record(1, 1)}, {leaf, record(0, 0, 0, 0, 0, 0, 0)},
		// The whole as a kid, its own or another's.
		{leaf, leaf, app(0, 1), fun(3)}, {leaf, fun(2), app(0, 1)}, {leaf, fun(2), fun(1)},
	} {
		mayNot(t, l, api.Tree{Nodes: l})
	}
}

// P4.1: each type is one's, a type's, a term's or an alias's.
func TestTypesAreOnes(t *testing.T) {
	leaf := api.TypeNode{Kind: api.TStr}
	fun := func(kids ...int) api.TypeNode { return api.TypeNode{Kind: api.TFun, Kids: kids} }
	record := func(kids ...int) api.TypeNode {
		return api.TypeNode{Kind: api.TRecord, Names: manyNames(len(kids)), Kids: kids}
	}
	tree := func(types []api.TypeNode, ofTerm []int, ofAliases ...int) api.Tree {
		x := api.Tree{Nodes: []api.Node{{Kind: api.Int}}, Types: types}
		if len(ofTerm) == 1 {
			x.Nodes = append(x.Nodes, api.Node{Kind: api.Ascribe, Kids: []int{0}, Types: ofTerm})
		} else if len(ofTerm) == 2 {
			x.Nodes = append(x.Nodes, api.Node{Kind: api.Cast, Kids: []int{0}, Types: ofTerm})
		}
		for i, of := range ofAliases {
			x.Aliases = append(x.Aliases, api.Alias{Name: "A" + string(rune('0'+i)), Type: of})
		}
		return x
	}
	l := func(x ...api.TypeNode) []api.TypeNode { return x }
	of := func(x ...int) []int { return x }
	for i, x := range []api.Tree{
		tree(nil, nil),
		tree(l(leaf), of(0)),
		tree(l(leaf), nil, 0),
		tree(l(leaf, leaf), of(0, 1)),
		tree(l(leaf, leaf), of(1, 0)),
		tree(l(leaf, leaf), of(1), 0),
		tree(l(leaf, leaf), of(0), 1),
		tree(l(leaf, leaf), nil, 1, 0),
		tree(l(leaf, leaf, fun(1, 0)), of(2)),
		tree(l(leaf, leaf, fun(0, 1), leaf), of(3), 2),
		tree(l(leaf, record(0), leaf, fun(2, 1)), nil, 3),
	} {
		may(t, i, x)
	}
	for i, x := range []api.Tree{
		// Nobody's.
		tree(l(leaf), nil),
		tree(l(leaf, leaf), of(0)),
		tree(l(leaf, leaf), of(1)),
		tree(l(leaf, leaf), nil, 0),
		tree(l(leaf, record(), record(0)), of(2)),
		// A term's and an alias's as well, a term's twice, two aliases'.
		tree(l(leaf), of(0), 0),
		tree(l(leaf), of(0, 0)),
		tree(l(leaf, leaf), of(1, 1)),
		tree(l(leaf), nil, 0, 0),
		// A type's, and a term's or an alias's.
		tree(l(leaf, record(0)), of(0)),
		tree(l(leaf, record(0)), of(1), 0),
		tree(l(leaf, record(0)), of(0, 1)),
		tree(l(leaf, record(0)), nil, 0, 1),
		// A type's twice, two types'.
		tree(l(leaf, fun(0, 0)), of(1)),
		tree(l(leaf, record(0), record(0)), of(1, 2)),
		tree(l(leaf, record(0), record(0), fun(1, 2)), of(3)),
		// A kid of its own number, of a greater one, of one that isn't there.
		tree(l(record(0)), of(0)),
		tree(l(record(1)), of(0)),
		tree(l(record(-1)), of(0)),
		tree(l(record(1), leaf), of(0)),
		tree(l(record(1), record(0)), of(0)),
		tree(l(leaf, fun(0, 1)), of(1)),
		tree(l(leaf, fun(0, -1)), of(1)),
		tree(l(record(0)), nil),
		tree(l(leaf, record(1)), of(0)),
		tree(l(record(1), record(0)), nil),
		tree(l(record(1), record(0), leaf), of(2)),
		tree(l(record(math.MaxInt)), of(0)),
		tree(l(record(math.MinInt)), of(0)),
		// A term's, or an alias's, that isn't there.
		tree(nil, of(0)),
		tree(nil, of(-1)),
		tree(nil, nil, 0),
		tree(nil, nil, -1),
		tree(l(leaf), of(1)),
		tree(l(leaf), of(-1)),
		tree(l(leaf), of(0, 1)),
		tree(l(leaf), of(0, -1)),
		tree(l(leaf), of(math.MaxInt)),
		tree(l(leaf), of(math.MinInt)),
		tree(l(leaf), of(0), 1),
		tree(l(leaf), of(0), -1),
		tree(l(leaf), nil, 1),
		tree(l(leaf), nil, math.MaxInt),
		tree(l(leaf), nil, math.MinInt),
		tree(l(leaf), nil, 0, 1),
	} {
		mayNot(t, i, x)
	}
	// Of two terms one type.
	mayNot(t, "two terms'", api.Tree{
		Nodes: []api.Node{{Kind: api.Int}, {Kind: api.Ascribe, Kids: []int{0}, Types: []int{0}}, {Kind: api.Ascribe, Kids: []int{1}, Types: []int{0}}},
		Types: l(leaf),
	})
	// A type's number may be greater than its term's, and a term's type may be any.
	may(t, "greater", api.Tree{
		Nodes: []api.Node{{Kind: api.Int}, {Kind: api.Ascribe, Kids: []int{0}, Types: []int{3}}, {Kind: api.Ascribe, Kids: []int{1}, Types: []int{0}}},
		Types: l(leaf, leaf, leaf, fun(2, 1)),
	})
}

// P4.1: aliases' names.
func TestAliases(t *testing.T) {
	tree := func(name string) api.Tree {
		x := good()
		x.Types, x.Aliases = []api.TypeNode{{}, {}}, []api.Alias{{Name: "B", Type: 1}, {Name: name, Pos: -3}}
		return x
	}
	for _, s := range []string{"A", "Z", "AZ", "Az", "A0", "A9z", "Let", "B", strings.Repeat("A", 300)} {
		may(t, s, tree(s))
	}
	for _, s := range []string{"", "a", "let", "_", "_A", "0A", "A_", "A b", " A", "A ", "\nA", "A//", "A.B", "#A", "\"A\"", "A\xff", "\xff", "\u00c4", "A\u00e4", "A\x00", "aA"} {
		mayNot(t, s, tree(s))
	}
	for c := range 256 {
		s := string([]byte{byte(c)})
		great := c >= 'A' && c <= 'Z'
		follows := great || c >= 'a' && c <= 'z' || c >= '0' && c <= '9'
		for x, right := range map[string]bool{s: great, s + "A": great, "Q" + s: follows, "Q" + s + "q": follows} {
			if got := Check(tree(x)) == api.OK; got != right {
				t.Errorf("%q: %v", x, got)
			}
			if got := Check(aroundType(api.TypeNode{Kind: api.TAlias, Name: x}, 0)) == api.OK; got != right {
				t.Errorf("TAlias of %q: %v", x, got)
			}
		}
	}
}

// The chapter's words, said anew, so that the package isn't held against itself.
var (
	namePattern  = regexp.MustCompile(`^[a-z_][a-z_0-9]*$`)
	aliasPattern = regexp.MustCompile(`^[A-Z][A-Za-z0-9]*$`)
	wordPattern  = regexp.MustCompile(`^(fun|let|rec|in|if|then|else|case|of|end|true|false|int|bool|str|float|dyn|any|none|type)$`)
	opPattern    = regexp.MustCompile(`^([-+*/]\.?|<\.?|==|\^)$`)
	linePattern  = regexp.MustCompile(`^[^\x00-\x09\x0b-\x1f]*$`)
)

// wantName: may a field Name be, of what is asked?
func wantName(ask, s string) bool {
	switch ask {
	case "name":
		return namePattern.MatchString(s) && !wordPattern.MatchString(s)
	case "tag":
		return namePattern.MatchString(s)
	case "alias":
		return aliasPattern.MatchString(s)
	case "op":
		return opPattern.MatchString(s)
	case "text":
		return utf8.ValidString(s) && linePattern.MatchString(s)
	}
	return s == ""
}

// wantNames: may all be, each once?
func wantNames(ask string, l []string) bool {
	for i, s := range l {
		if !wantName(ask, s) || slices.Contains(l[:i], s) {
			return false
		}
	}
	return true
}

// wantTerm: may a term be, with what it has beside its kids and types?
func wantTerm(n api.Node, kids, types int) bool {
	has := func(name string, wantKids, wantTypes int) bool {
		return wantName(name, n.Name) && kids == wantKids && types == wantTypes
	}
	bare := n.Int == 0 && n.Bits == 0 && len(n.Names) == 0
	switch n.Kind {
	case api.Var:
		return bare && has("name", 0, 0)
	case api.Int:
		return n.Int >= 0 && n.Bits == 0 && len(n.Names) == 0 && has("", 0, 0)
	case api.Bool:
		return (n.Int == 0 || n.Int == 1) && n.Bits == 0 && len(n.Names) == 0 && has("", 0, 0)
	case api.Str:
		return bare && has("text", 0, 0)
	case api.Float:
		x := math.Float64frombits(n.Bits)
		return n.Int == 0 && (x == x || n.Bits == oneNone) && len(n.Names) == 0 && has("", 0, 0)
	case api.Fun, api.Select:
		return bare && has("name", 1, 0)
	case api.App:
		return bare && has("", 2, 0)
	case api.Let, api.LetRec:
		return bare && has("name", 2, 0)
	case api.If:
		return bare && has("", 3, 0)
	case api.Case:
		var tags []string
		for i, s := range n.Names {
			if i%2 == 0 {
				tags = append(tags, s)
			} else if !wantName("name", s) {
				return false
			}
		}
		return len(n.Names)%2 == 0 && wantNames("tag", tags) && n.Int == 0 && n.Bits == 0 && (has("", 1+len(tags), 0) || has("", 2+len(tags), 0))
	case api.Tag:
		return bare && has("tag", 1, 0)
	case api.Record:
		return n.Int == 0 && n.Bits == 0 && wantNames("name", n.Names) && has("", len(n.Names), 0)
	case api.Op:
		return bare && has("op", 2, 0)
	case api.Ascribe:
		return bare && has("", 1, 1)
	case api.Cast:
		return bare && has("", 1, 2)
	}
	return false
}

// wantType: may a type be, with what it has beside its kids?
func wantType(n api.TypeNode, kids int) bool {
	plain := n.Name == "" && len(n.Names) == 0 && !n.Open
	switch {
	case n.Kind >= api.TInt && n.Kind <= api.TNone:
		return plain && kids == 0
	case n.Kind == api.TFun:
		return plain && kids == 2
	case n.Kind == api.TRecord:
		return n.Name == "" && !n.Open && wantNames("name", n.Names) && kids == len(n.Names)
	case n.Kind == api.TVariant:
		return n.Name == "" && wantNames("tag", n.Names) && kids == len(n.Names)
	case n.Kind == api.TAlias:
		return wantName("alias", n.Name) && len(n.Names) == 0 && !n.Open && kids == 0
	}
	return false
}

var (
	someNames = []string{"", "x", "let", "A", "A0_", "+", "<.", "==", "x y", "0", "a\nb", "a\tb", "\xff", "\x00"}
	someLists = [][]string{nil, {}, {"a"}, {"a", "b"}, {"a", "a"}, {"let", "b"}, {"a", "let"}, {"a", "b", "c"}, {"a", "x", "b", "x"}, {"a", "x", "a", "y"}, {"A", "b"}, {"", ""}, {"a", "b", "a"}}
)

// P4.1: every kind with all of some fields, held against the chapter's words.
func TestAllTerms(t *testing.T) {
	for kind := -1; kind <= api.Kinds; kind++ {
		for _, name := range someNames {
			for _, names := range someLists {
				for _, i := range []int64{0, 1, 2, -1} {
					for _, bits := range []uint64{0, oneNone, oneNone + 1} {
						for kids := range 5 {
							for types := range 3 {
								n := api.Node{Kind: kind, Name: name, Int: i, Bits: bits, Names: names}
								want := wantTerm(n, kids, types)
								if got := Check(around(n, kids, types)); (got == api.OK) != want || got != api.OK && got != api.ErrForm {
									t.Fatalf("%v, %d kids, %d types: %d, not %v", n, kids, types, got, want)
								}
							}
						}
					}
				}
			}
		}
	}
}

func TestAllTypes(t *testing.T) {
	for kind := -1; kind <= api.TKinds; kind++ {
		for _, name := range someNames {
			for _, names := range someLists {
				for _, open := range []bool{false, true} {
					for kids := range 5 {
						n := api.TypeNode{Kind: kind, Name: name, Names: names, Open: open}
						want := wantType(n, kids)
						if got := Check(aroundType(n, kids)); (got == api.OK) != want || got != api.OK && got != api.ErrForm {
							t.Fatalf("%v, %d kids: %d, not %v", n, kids, got, want)
						}
					}
				}
			}
		}
	}
}
