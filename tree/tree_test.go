package tree

import (
	"iter"
	"math"
	"math/rand"
	"reflect"
	"slices"
	"testing"

	"azimuth/api"
)

// term is a term with what it is made of in it, without numbers and places; typed is a type so; named is an alias so.
type term struct {
	head  api.Node
	kids  []term
	types []typed
}

type typed struct {
	head api.TypeNode
	kids []typed
}

type named struct {
	name string
	of   typed
}

// layer lays them out as a tree: the kids from the first on, or from the last on.
type layer struct {
	back  bool
	place int
	tree  api.Tree
}

func (l *layer) places(n int) iter.Seq[int] {
	return func(yield func(int) bool) {
		for i := range n {
			if l.back {
				i = n - 1 - i
			}
			if !yield(i) {
				return
			}
		}
	}
}

func (l *layer) term(x term) int {
	n := x.head
	n.Kids, n.Types = make([]int, len(x.kids)), make([]int, len(x.types))
	for i := range l.places(len(x.types)) {
		n.Types[i] = l.typed(x.types[i])
	}
	for i := range l.places(len(x.kids)) {
		n.Kids[i] = l.term(x.kids[i])
	}
	l.place += 3
	n.Pos = l.place
	l.tree.Nodes = append(l.tree.Nodes, n)
	return len(l.tree.Nodes) - 1
}

func (l *layer) typed(x typed) int {
	n := x.head
	n.Kids = make([]int, len(x.kids))
	for i := range l.places(len(x.kids)) {
		n.Kids[i] = l.typed(x.kids[i])
	}
	l.place += 5
	n.Pos = l.place
	l.tree.Types = append(l.tree.Types, n)
	return len(l.tree.Types) - 1
}

func (l *layer) aliases(x []named) {
	l.tree.Aliases = make([]api.Alias, len(x))
	for i := range l.places(len(x)) {
		l.place += 7
		l.tree.Aliases[i] = api.Alias{Name: x[i].name, Type: l.typed(x[i].of), Pos: l.place}
	}
}

// laid is the tree with the types of aliases first; laidBack is the same one, with all numbers and places the other way round.
func laid(x term, aliases ...named) api.Tree {
	l := layer{}
	l.aliases(aliases)
	l.term(x)
	return l.tree
}

func laidBack(x term, aliases ...named) api.Tree {
	l := layer{back: true, place: 1000}
	l.term(x)
	l.aliases(aliases)
	return l.tree
}

func of(kind int, name string, kids ...term) term {
	return term{head: api.Node{Kind: kind, Name: name}, kids: kids}
}

func number(n int64) term { return term{head: api.Node{Kind: api.Int, Int: n}} }

func held(x term, types ...typed) term {
	return term{head: api.Node{Kind: api.Ascribe + len(types) - 1}, kids: []term{x}, types: types}
}

func basic(kind int) typed { return typed{head: api.TypeNode{Kind: kind}} }

func ofType(kind int, names []string, kids ...typed) typed {
	return typed{head: api.TypeNode{Kind: kind, Names: names}, kids: kids}
}

// P4.1: trees of which no two are the same; each is the same as itself under other numbers and places.
func TestSame(t *testing.T) {
	i, x := number(1), of(api.Var, "x")
	record := func(kids []term, names ...string) term {
		return term{head: api.Node{Kind: api.Record, Names: names}, kids: kids}
	}
	fork := func(kids []term, names ...string) term {
		return term{head: api.Node{Kind: api.Case, Names: names}, kids: kids}
	}
	open := ofType(api.TVariant, []string{"a"}, basic(api.TInt))
	open.head.Open = true
	aliased := func(name string) typed { return typed{head: api.TypeNode{Kind: api.TAlias, Name: name}} }
	function := func(a, b typed) typed { return ofType(api.TFun, nil, a, b) }
	int1, bool1 := basic(api.TInt), basic(api.TBool)
	terms := []term{
		i, number(0), number(2), x, of(api.Var, "y"), {head: api.Node{Kind: api.Bool}}, {head: api.Node{Kind: api.Bool, Int: 1}},
		of(api.Str, ""), of(api.Str, "x"), {head: api.Node{Kind: api.Float}}, {head: api.Node{Kind: api.Float, Bits: 1 << 63}}, {head: api.Node{Kind: api.Float, Bits: oneNone}},
		of(api.Fun, "x", x), of(api.Fun, "y", x), of(api.Fun, "y", of(api.Var, "y")), of(api.Select, "x", x), of(api.Tag, "x", x), of(api.Tag, "let", x),
		of(api.App, "", i, x), of(api.App, "", x, i), of(api.App, "", x, x), of(api.App, "", of(api.App, "", x, i), x), of(api.App, "", x, of(api.App, "", i, x)), of(api.App, "", of(api.App, "", i, x), x),
		of(api.Let, "x", i, x), of(api.LetRec, "x", i, x), of(api.Let, "x", x, i), of(api.Let, "y", i, x), of(api.Op, "+", i, x), of(api.Op, "+.", i, x), of(api.Op, "<", i, x),
		of(api.If, "", i, i, x), of(api.If, "", i, x, i), of(api.If, "", x, i, i),
		record(nil), record([]term{i}, "a"), record([]term{i}, "b"), record([]term{i, x}, "a", "b"), record([]term{i, x}, "b", "a"), record([]term{x, i}, "a", "b"), record([]term{x, i}, "b", "a"),
		fork([]term{i}), fork([]term{i, i}), fork([]term{i, i}, "a", "x"), fork([]term{i, i, i}, "a", "x"), fork([]term{i, i}, "a", "y"), fork([]term{i, i}, "b", "x"),
		fork([]term{i, x, i}, "a", "x", "b", "x"), fork([]term{i, i, x}, "a", "x", "b", "x"), fork([]term{i, i, x}, "b", "x", "a", "x"), fork([]term{i, i, x, i}, "a", "x", "b", "x"),
		of(api.App, "", fork([]term{i, fork([]term{i})}), i), of(api.App, "", fork([]term{i}), fork([]term{i, i})), // the same parts in the same order, in one another otherwise
		held(i, int1), held(i, bool1), held(x, int1), held(i, int1, int1), held(i, int1, bool1), held(i, bool1, int1), held(held(i, int1), bool1), held(held(i, bool1), int1),
		of(api.App, "", held(i, int1), i), of(api.App, "", i, held(i, int1)),
		of(api.App, "", held(i, int1), held(i, bool1)), of(api.App, "", held(i, bool1), held(i, int1)), of(api.App, "", held(i, int1, bool1), held(i, bool1)), of(api.App, "", held(i, int1), held(i, bool1, bool1)),
		held(i, function(int1, bool1)), held(i, function(bool1, int1)), held(i, function(int1, function(bool1, int1))), held(i, function(function(int1, bool1), int1)),
		held(i, ofType(api.TRecord, nil)), held(i, ofType(api.TVariant, nil)), held(i, open), held(i, ofType(api.TVariant, []string{"a"}, int1)), held(i, ofType(api.TRecord, []string{"a"}, int1)), held(i, ofType(api.TRecord, []string{"b"}, int1)),
		held(i, ofType(api.TRecord, []string{"a", "b"}, int1, bool1)), held(i, ofType(api.TRecord, []string{"b", "a"}, int1, bool1)), held(i, ofType(api.TRecord, []string{"b", "a"}, bool1, int1)),
		held(i, ofType(api.TRecord, nil), function(int1, int1)), held(i, function(ofType(api.TRecord, nil), int1), int1), // as many parts of the same kinds
		held(i, aliased("A")), held(i, aliased("B")),
	}
	for kind := api.TStr; kind <= api.TNone; kind++ {
		terms = append(terms, held(i, basic(kind)))
	}
	type one struct {
		of      term
		aliases []named
	}
	var l []one
	for _, x := range terms {
		l = append(l, one{of: x})
	}
	a, b := named{"A", int1}, named{"B", bool1}
	for _, aliases := range [][]named{
		{a}, {b}, {a, b}, {b, a}, {a, a}, {a, a, b}, {{"A", bool1}}, {{"B", int1}}, {{"A", bool1}, {"B", int1}}, {{"A", function(int1, bool1)}},
		{{"A", aliased("A")}}, {{"A", aliased("B")}}, {{"A", open}}, {{"A", ofType(api.TRecord, nil)}, {"B", function(int1, int1)}}, {{"A", function(int1, int1)}, {"B", ofType(api.TRecord, nil)}},
	} {
		l = append(l, one{i, aliases}, one{held(i, int1), aliases}, one{held(i, int1, bool1), aliases})
	}
	for i, x := range l {
		for j, y := range l {
			pairs := [][2]api.Tree{
				{laid(x.of, x.aliases...), laid(y.of, y.aliases...)},
				{laid(x.of, x.aliases...), laidBack(y.of, y.aliases...)},
				{laidBack(x.of, x.aliases...), laid(y.of, y.aliases...)},
			}
			for _, p := range pairs {
				if Check(p[0]) != api.OK || Check(p[1]) != api.OK {
					t.Fatal("a tree of the test's may not be", p)
				}
				if Same(p[0], p[1]) != (i == j) {
					t.Errorf("%v and %v: %v", p[0], p[1], i != j)
				}
			}
		}
	}
}

// P4.1: nil and empty lists are the same.
func TestSameEmpty(t *testing.T) {
	a := api.Tree{Nodes: []api.Node{{Kind: api.Int}, {Kind: api.Ascribe, Kids: []int{0}, Types: []int{0}}}, Types: []api.TypeNode{{Kind: api.TRecord}}}
	b := Clone(a)
	b.Nodes[0].Names, b.Nodes[0].Kids, b.Nodes[0].Types, b.Nodes[1].Names = []string{}, []int{}, []int{}, []string{}
	b.Types[0].Names, b.Types[0].Kids, b.Aliases = []string{}, []int{}, []api.Alias{}
	if Check(b) != api.OK || !Same(a, b) || !Same(b, a) || Depth(b) != 2 {
		t.Error(b)
	}
}

// chance makes small trees, of few things, so that two are often the same.
type chance struct{ r *rand.Rand }

func (c chance) term(deep int) term {
	n := 10
	if deep == 0 {
		n = 3
	}
	sub := func() term { return c.term(deep - 1) }
	switch c.r.Intn(n) {
	case 0:
		return number(int64(c.r.Intn(2)))
	case 1:
		return of(api.Var, "x")
	case 2:
		return term{head: api.Node{Kind: api.Float, Bits: uint64(c.r.Intn(2))}}
	case 3:
		return of(api.Fun, "x", sub())
	case 4:
		return of(api.App, "", sub(), sub())
	case 5:
		return term{head: api.Node{Kind: api.Case, Names: []string{"a", "x"}}, kids: []term{sub(), sub()}}
	case 6:
		return term{head: api.Node{Kind: api.Case, Names: []string{"a", "x"}}, kids: []term{sub(), sub(), sub()}}
	case 7:
		return held(sub(), c.typed(deep-1))
	case 8:
		return held(sub(), c.typed(deep-1), c.typed(deep-1))
	}
	return term{head: api.Node{Kind: api.Record, Names: []string{"a", "b"}}, kids: []term{sub(), sub()}}
}

func (c chance) typed(deep int) typed {
	n := 5
	if deep <= 0 {
		n = 2
	}
	switch c.r.Intn(n) {
	case 0:
		return basic(api.TInt)
	case 1:
		return typed{head: api.TypeNode{Kind: api.TAlias, Name: "A"}}
	case 2:
		return ofType(api.TFun, nil, c.typed(deep-1), c.typed(deep-1))
	case 3:
		return ofType(api.TRecord, []string{"a"}, c.typed(deep-1))
	}
	return typed{head: api.TypeNode{Kind: api.TVariant, Names: []string{"a"}, Open: c.r.Intn(2) == 0}, kids: []typed{c.typed(deep - 1)}}
}

func (c chance) aliases() []named {
	var l []named
	for range c.r.Intn(3) {
		l = append(l, named{"A", c.typed(2)})
	}
	return l
}

// deep is Depth, asked of what isn't laid out.
func (x term) deep() int {
	most := 0
	for _, k := range x.kids {
		most = max(most, k.deep())
	}
	for _, k := range x.types {
		most = max(most, k.deep())
	}
	return 1 + most
}

func (x typed) deep() int {
	most := 0
	for _, k := range x.kids {
		most = max(most, k.deep())
	}
	return 1 + most
}

// walked is Walk of a tree that may be, by a function that calls itself.
func walked(t api.Tree, root int) []int {
	l := []int{root}
	for _, k := range t.Nodes[root].Kids {
		l = append(l, walked(t, k)...)
	}
	return l
}

// P4.1: Same, Depth, Walk and Clone of many trees.
func TestChance(t *testing.T) {
	c := chance{rand.New(rand.NewSource(4))}
	type one struct {
		of      term
		aliases []named
	}
	var l []one
	for range 400 {
		l = append(l, one{c.term(c.r.Intn(4)), c.aliases()})
	}
	for i, x := range l {
		a, b := laid(x.of, x.aliases...), laidBack(x.of, x.aliases...)
		deep := x.of.deep()
		for _, y := range x.aliases {
			deep = max(deep, y.of.deep())
		}
		for _, z := range []api.Tree{a, b} {
			if Check(z) != api.OK || Depth(z) != deep || !reflect.DeepEqual(slices.Collect(Walk(z, len(z.Nodes)-1)), walked(z, len(z.Nodes)-1)) {
				t.Fatalf("%v: Depth %d, not %d", z, Depth(z), deep)
			}
			if !Same(z, Clone(z)) || !equal(z, Clone(z)) {
				t.Fatal(Clone(z))
			}
		}
		for j, y := range l {
			want := i == j || reflect.DeepEqual(x, y)
			if other := laidBack(y.of, y.aliases...); Same(a, other) != want {
				t.Fatalf("%v and %v: not %v", a, other, want)
			}
		}
	}
}

// equal holds trees against each other to the last number and place; nil and empty lists are the same.
func equal(a, b api.Tree) bool {
	return slices.EqualFunc(a.Nodes, b.Nodes, func(x, y api.Node) bool {
		return x.Kind == y.Kind && x.Pos == y.Pos && x.Name == y.Name && x.Int == y.Int && x.Bits == y.Bits &&
			slices.Equal(x.Names, y.Names) && slices.Equal(x.Kids, y.Kids) && slices.Equal(x.Types, y.Types)
	}) && slices.EqualFunc(a.Types, b.Types, func(x, y api.TypeNode) bool {
		return x.Kind == y.Kind && x.Pos == y.Pos && x.Name == y.Name && x.Open == y.Open && slices.Equal(x.Names, y.Names) && slices.Equal(x.Kids, y.Kids)
	}) && slices.Equal(a.Aliases, b.Aliases)
}

// P4.1: Depth counts terms and types that stand within one another, the types of aliases as well.
func TestDepth(t *testing.T) {
	i, int1 := number(1), basic(api.TInt)
	in := func(x typed) typed { return ofType(api.TRecord, []string{"a"}, x) }
	one := func(x term, want int, aliases ...named) {
		t.Helper()
		for _, y := range []api.Tree{laid(x, aliases...), laidBack(x, aliases...)} {
			if n := Depth(y); n != want {
				t.Errorf("%v: %d, not %d", y, n, want)
			}
		}
	}
	one(of(api.Fun, "x", of(api.Var, "x")), 2)
	one(i, 1)
	one(of(api.App, "", i, of(api.Fun, "x", i)), 3)
	one(of(api.App, "", of(api.Fun, "x", i), i), 3)
	one(of(api.If, "", i, of(api.Fun, "x", of(api.Fun, "x", i)), i), 4)
	one(held(i, int1), 2)
	one(held(i, in(int1)), 3)
	one(held(i, in(in(int1))), 4)
	one(held(of(api.Fun, "x", of(api.Fun, "x", i)), int1), 4)
	one(held(of(api.Fun, "x", of(api.Fun, "x", i)), in(in(int1))), 4)
	one(held(i, int1, in(int1)), 3)
	one(held(i, in(int1), int1), 3)
	one(of(api.Fun, "x", held(i, in(int1))), 4)
	one(held(i, ofType(api.TFun, nil, int1, in(int1))), 4)
	one(held(i, ofType(api.TFun, nil, in(int1), int1)), 4)
	one(i, 1, named{"A", int1})
	one(i, 2, named{"A", in(int1)})
	one(i, 3, named{"A", int1}, named{"B", in(in(int1))}, named{"C", in(int1)})
	one(of(api.Fun, "x", i), 2, named{"A", int1})
	one(held(i, typed{head: api.TypeNode{Kind: api.TAlias, Name: "A"}}), 3, named{"A", in(in(int1))}) // an alias isn't looked through
	for _, n := range []int{1, 2, 255, 257, api.MaxNodes - 1, api.MaxNodes} {
		if d := Depth(chain(n)); d != n {
			t.Error(n, d)
		}
		if d := Depth(typeChain(n, true)); d != n+1 {
			t.Error(n, d)
		}
		if d := Depth(typeChain(n, false)); d != n {
			t.Error(n, d)
		}
	}
	long := chain(api.MaxNodes)
	long.Nodes[1] = api.Node{Kind: api.Ascribe, Kids: []int{0}, Types: []int{api.MaxNodes - 1}}
	long.Types = typeChain(api.MaxNodes, true).Types
	if d := Depth(long); d != 2*api.MaxNodes-1 {
		t.Error(d)
	}
}

// bush is a tree with a number for each shape that Walk meets.
func bush() api.Tree {
	return api.Tree{
		Nodes: []api.Node{
			{Kind: api.Int}, {Kind: api.Var, Name: "x"}, {Kind: api.App, Kids: []int{1, 0}}, {Kind: api.Int},
			{Kind: api.Ascribe, Kids: []int{3}, Types: []int{1}}, {Kind: api.Fun, Name: "x", Kids: []int{2}}, {Kind: api.Int, Int: 2},
			{Kind: api.If, Kids: []int{4, 6, 5}},
		},
		Types:   []api.TypeNode{{}, {Kind: api.TRecord, Names: []string{"a"}, Kids: []int{0}}, {}},
		Aliases: []api.Alias{{Name: "A", Type: 2}},
	}
}

// P4.1: Walk's order, from each term on; of terms that aren't there.
func TestWalk(t *testing.T) {
	b := bush()
	want := [][]int{{0}, {1}, {2, 1, 0}, {3}, {4, 3}, {5, 2, 1, 0}, {6}, {7, 4, 3, 6, 5, 2, 1, 0}}
	for root, l := range want {
		if got := slices.Collect(Walk(b, root)); !slices.Equal(got, l) {
			t.Errorf("%d: %v, not %v", root, got, l)
		}
	}
	for _, root := range []int{-1, -8, 8, 9, math.MaxInt, math.MinInt} {
		if got := slices.Collect(Walk(b, root)); len(got) != 0 {
			t.Errorf("%d: %v", root, got)
		}
	}
	b.Nodes[0].Kind = api.Kinds
	for root := range b.Nodes {
		if got := slices.Collect(Walk(b, root)); len(got) != 0 {
			t.Errorf("%d: %v", root, got)
		}
	}
	for _, n := range []int{1, 2, api.MaxNodes} {
		at := n
		for i := range Walk(chain(n), n-1) {
			at--
			if i != at {
				t.Fatalf("%d: %d, not %d", n, i, at)
			}
		}
		if at != 0 {
			t.Errorf("%d: ends at %d", n, at)
		}
	}
	wide := slices.Collect(Walk(around(api.Node{Kind: api.Record, Names: manyNames(api.MaxNodes - 1)}, api.MaxNodes-1, 0), api.MaxNodes-1))
	if len(wide) != api.MaxNodes || wide[0] != api.MaxNodes-1 || !slices.IsSorted(wide[1:]) {
		t.Error(len(wide))
	}
}

// P4.1, P4.3: a walk may be left early, gone through again, and by two at once; it tells the same whatever becomes of the tree.
func TestWalkAgain(t *testing.T) {
	b := bush()
	want := []int{7, 4, 3, 6, 5, 2, 1, 0}
	walk := Walk(b, 7)
	for n := range len(want) + 1 {
		var got []int
		for i := range walk {
			if len(got) == n {
				break
			}
			got = append(got, i)
		}
		if !slices.Equal(got, want[:n]) {
			t.Errorf("%d: %v", n, got)
		}
	}
	calls := 0
	walk(func(int) bool {
		calls++
		return calls < 3
	})
	if calls != 3 {
		t.Error(calls)
	}
	one, stopOne := iter.Pull(walk)
	defer stopOne()
	two, stopTwo := iter.Pull(walk)
	defer stopTwo()
	for at, x := range want {
		i, _ := one()
		if i != x {
			t.Errorf("at %d: %d", at, i)
		}
		if at%2 == 1 {
			if i, _ := two(); i != want[at/2] {
				t.Errorf("at %d: %d", at/2, i)
			}
		}
	}
	var got []int
	for i := range walk {
		b.Nodes[7].Kids[2], b.Nodes[5].Kids[0], b.Nodes[2].Kids[0], b.Nodes[4].Kids = 0, 9, -1, nil
		got = append(got, i)
	}
	clear(b.Nodes)
	if again := slices.Collect(walk); !slices.Equal(got, want) || !slices.Equal(again, want) {
		t.Error(got, again)
	}
}

// P4.1: Clone of trees, and of what may not be.
func TestClone(t *testing.T) {
	for i, x := range []api.Tree{
		{}, bush(), chain(5), typeChain(3, true), chain(api.MaxNodes + 1), manyAliases(api.MaxNodes + 1),
		{Nodes: []api.Node{{Kind: -1, Pos: -2, Name: "\xff", Int: -3, Bits: oneNone + 1, Names: []string{"", "a", "a"}, Kids: []int{-1, 0, 9}, Types: []int{7, 7}}, {}}},
		{Types: []api.TypeNode{{Kind: 99, Pos: 8, Name: "\x00", Names: []string{"b"}, Kids: []int{5, -5}, Open: true}, {}}},
		{Aliases: []api.Alias{{Name: "a", Type: -1, Pos: -1}, {}, {Name: "a", Type: 3, Pos: 7}}},
	} {
		if c := Clone(x); !equal(c, x) {
			t.Error(i, c)
		}
	}
}

// lists of a tree, each as far as its spare room goes.
func lists(t api.Tree) (numbers [][]int, names [][]string) {
	for _, n := range t.Nodes[:cap(t.Nodes)] {
		numbers = append(numbers, n.Kids[:cap(n.Kids)], n.Types[:cap(n.Types)])
		names = append(names, n.Names[:cap(n.Names)])
	}
	for _, n := range t.Types[:cap(t.Types)] {
		numbers = append(numbers, n.Kids[:cap(n.Kids)])
		names = append(names, n.Names[:cap(n.Names)])
	}
	return numbers, names
}

// scribble writes over all of a tree, spare room too, with another thing at each place.
func scribble(t api.Tree, n int) {
	numbers, names := lists(t)
	for _, l := range numbers {
		for i := range l {
			l[i] = n
			n--
		}
	}
	for _, l := range names {
		for i := range l {
			l[i] = string(rune(0x4e00 + n&0xfff))
			n--
		}
	}
	for i := range t.Nodes {
		t.Nodes[i].Kind, t.Nodes[i].Pos, t.Nodes[i].Name, t.Nodes[i].Int, t.Nodes[i].Bits = n, n, "!", int64(n), 9
	}
	for i := range t.Types {
		t.Types[i].Kind, t.Types[i].Pos, t.Types[i].Name, t.Types[i].Open = n, n, "!", true
	}
	for i := range t.Aliases[:cap(t.Aliases)] {
		t.Aliases[:cap(t.Aliases)][i] = api.Alias{Name: "!", Type: n, Pos: n}
	}
	t.Nodes, t.Types = t.Nodes[:cap(t.Nodes)], t.Types[:cap(t.Types)]
	for i := range t.Nodes {
		t.Nodes[i].Kids, t.Nodes[i].Names, t.Nodes[i].Types = []int{n}, []string{"!"}, []int{n}
	}
	for i := range t.Types {
		t.Types[i].Kids, t.Types[i].Names = []int{n}, []string{"!"}
	}
}

// roomy is bush with lists that are pieces of one, each with the spare room behind it that others stand in.
func roomy() (t api.Tree, numbers []int, names []string) {
	b := bush()
	numbers, names = make([]int, 0, 64), make([]string, 0, 64)
	number := func(l []int) []int {
		at := len(numbers)
		numbers = append(numbers, l...)
		return numbers[at:len(numbers)]
	}
	name := func(l []string) []string {
		at := len(names)
		names = append(names, l...)
		return names[at:len(names)]
	}
	for i, n := range b.Nodes {
		b.Nodes[i].Kids, b.Nodes[i].Types, b.Nodes[i].Names = number(n.Kids), number(n.Types), name(n.Names)
	}
	for i, n := range b.Types {
		b.Types[i].Kids, b.Types[i].Names = number(n.Kids), name(n.Names)
	}
	numbers, names = numbers[:cap(numbers)], names[:cap(names)]
	for i := range numbers {
		if i >= 9 { // behind all kids and types of bush
			numbers[i] = -7
		}
	}
	for i := range names {
		if i >= 1 {
			names[i] = "spare"
		}
	}
	b.Nodes = append(b.Nodes, api.Node{Name: "spare", Kids: []int{-7}})[:len(b.Nodes)]
	b.Types = append(b.Types, api.TypeNode{Name: "spare"})[:len(b.Types)]
	b.Aliases = append(b.Aliases, api.Alias{Name: "Spare"})[:len(b.Aliases)]
	return b, numbers, names
}

// unchanged looks whether roomy's tree is as it was made.
func unchanged(t *testing.T, what string, x api.Tree, numbers []int, names []string) {
	t.Helper()
	y, wantNumbers, wantNames := roomy()
	if !equal(x, y) || !slices.Equal(numbers, wantNumbers) || !slices.Equal(names, wantNames) {
		t.Errorf("%s: %v, %v, %v", what, x, numbers, names)
	}
	n, m := len(x.Nodes), len(x.Types)
	if x.Nodes[:n+1][n].Name != "spare" || !slices.Equal(x.Nodes[:n+1][n].Kids, []int{-7}) || x.Types[:m+1][m].Name != "spare" || x.Aliases[:2][1].Name != "Spare" {
		t.Errorf("%s: spare room", what)
	}
}

// P4.3: what is handed in isn't changed, its spare room neither.
func TestUnchanged(t *testing.T) {
	x, numbers, names := roomy()
	y, _, _ := roomy()
	unchanged(t, "as it is made", x, numbers, names)
	if Check(x) != api.OK {
		t.Fatal(x)
	}
	Check(x)
	unchanged(t, "Check", x, numbers, names)
	if !Same(x, y) || !Same(y, x) || !Same(x, x) {
		t.Error("Same")
	}
	unchanged(t, "Same", x, numbers, names)
	if Depth(x) != 4 {
		t.Error(Depth(x))
	}
	unchanged(t, "Depth", x, numbers, names)
	for range Walk(x, 7) {
	}
	unchanged(t, "Walk", x, numbers, names)
	c := Clone(x)
	unchanged(t, "Clone", x, numbers, names)
	scribble(c, -100)
	unchanged(t, "a Clone that is written over", x, numbers, names)
	b := New()
	fill(b, x)
	unchanged(t, "Builder", x, numbers, names)
	scribble(b.Tree(), -100)
	unchanged(t, "a Builder's Tree that is written over", x, numbers, names)
}

// P4.3: answers are new memory, of which no two lists share any.
func TestNewMemory(t *testing.T) {
	shared, names := []int{1, 2, 3}, []string{"a", "b"}
	x := api.Tree{Aliases: make([]api.Alias, 2)}
	for range 3 {
		x.Nodes = append(x.Nodes, api.Node{Kids: shared, Types: shared[:2], Names: names})
		x.Types = append(x.Types, api.TypeNode{Kids: shared[:1], Names: names[:1]})
	}
	b := New()
	fill(b, x)
	for what, c := range map[string]api.Tree{"Clone": Clone(x), "Tree": b.Tree()} {
		if !equal(c, x) {
			t.Errorf("%s: %v", what, c)
		}
		// Each place of each list gets a number of its own, and must keep it.
		numbers, texts := listsOf(c)
		n := 100
		for _, l := range numbers {
			for i := range l {
				l[i] = n
				n++
			}
		}
		n = 100
		for _, l := range numbers {
			for i := range l {
				if l[i] != n {
					t.Fatalf("%s: lists share memory", what)
				}
				n++
			}
		}
		for i, l := range texts {
			for j := range l {
				l[j] = string(rune('A' + i))
			}
		}
		for i, l := range texts {
			for j := range l {
				if l[j] != string(rune('A'+i)) {
					t.Fatalf("%s: lists share memory", what)
				}
			}
		}
	}
	if !slices.Equal(shared, []int{1, 2, 3}) || !slices.Equal(names, []string{"a", "b"}) {
		t.Error(shared, names)
	}
	// What is handed in may change behind the call.
	x = bush()
	c := Clone(x)
	scribble(x, -100)
	if !equal(c, bush()) {
		t.Error(c)
	}
}

// listsOf is lists, without what stands behind the tree's terms and types.
func listsOf(t api.Tree) ([][]int, [][]string) {
	t.Nodes, t.Types = slices.Clip(t.Nodes), slices.Clip(t.Types)
	return lists(t)
}
