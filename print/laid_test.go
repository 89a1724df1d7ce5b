package print

import (
	"math/rand"
	"strconv"
	"testing"

	"azimuth/api"
	"azimuth/floats"
	"azimuth/parse"
	"azimuth/tree"
)

// term is a term with what it is made of in it; typed is a type so; named is an alias so.
type term struct {
	head  api.Node
	kids  []term
	types []typed
}

type typed struct {
	head api.TypeNode
	kids []typed
}

type named struct {
	name string
	of   typed
}

func of(kind int, name string, kids ...term) term {
	return term{head: api.Node{Kind: kind, Name: name}, kids: kids}
}

func variable(name string) term { return of(api.Var, name) }

func number(n int64) term { return term{head: api.Node{Kind: api.Int, Int: n}} }

func truth(n int64) term { return term{head: api.Node{Kind: api.Bool, Int: n}} }

func point(bits uint64) term { return term{head: api.Node{Kind: api.Float, Bits: bits}} }

// manned is a term with Names: a Case, or a Record.
func manned(kind int, names []string, kids ...term) term {
	return term{head: api.Node{Kind: kind, Names: names}, kids: kids}
}

// held is a term in its round brackets: an Ascribe, or a Cast.
func held(x term, types ...typed) term {
	kinds := []int{1: api.Ascribe, 2: api.Cast}
	return term{head: api.Node{Kind: kinds[len(types)]}, kids: []term{x}, types: types}
}

func basic(kind int) typed { return typed{head: api.TypeNode{Kind: kind}} }

func aliased(name string) typed { return typed{head: api.TypeNode{Kind: api.TAlias, Name: name}} }

func arrow(from, to typed) typed {
	return typed{head: api.TypeNode{Kind: api.TFun}, kids: []typed{from, to}}
}

func fields(names []string, kids ...typed) typed {
	return typed{head: api.TypeNode{Kind: api.TRecord, Names: names}, kids: kids}
}

func variant(open bool, names []string, kids ...typed) typed {
	return typed{head: api.TypeNode{Kind: api.TVariant, Names: names, Open: open}, kids: kids}
}

// layer lays terms and types out in a tree; a number of its own for each is told by chance, where there is one.
type layer struct {
	tree   api.Tree
	chance *rand.Rand
}

// turns are the places of kids in the order in which they are laid.
func (l *layer) turns(n int) []int {
	if l.chance != nil {
		return l.chance.Perm(n)
	}
	var turns []int
	for i := range n {
		turns = append(turns, i)
	}
	return turns
}

func (l *layer) term(x term) int {
	n := x.head
	n.Kids, n.Types = make([]int, len(x.kids)), make([]int, len(x.types))
	for _, i := range l.turns(len(x.kids)) {
		n.Kids[i] = l.term(x.kids[i])
	}
	for _, i := range l.turns(len(x.types)) {
		n.Types[i] = l.typed(x.types[i])
	}
	l.tree.Nodes = append(l.tree.Nodes, n)
	return len(l.tree.Nodes) - 1
}

func (l *layer) typed(x typed) int {
	n := x.head
	n.Kids = make([]int, len(x.kids))
	for _, i := range l.turns(len(x.kids)) {
		n.Kids[i] = l.typed(x.kids[i])
	}
	l.tree.Types = append(l.tree.Types, n)
	return len(l.tree.Types) - 1
}

func (l *layer) aliases(x []named) {
	for _, a := range x {
		l.tree.Aliases = append(l.tree.Aliases, api.Alias{Name: a.name, Type: l.typed(a.of)})
	}
}

func laid(x term, aliases ...named) api.Tree {
	var l layer
	l.term(x)
	l.aliases(aliases)
	return l.tree
}

// laidAnyhow: the same tree, with places and numbers by chance.
func laidAnyhow(chance *rand.Rand, x term, aliases ...named) api.Tree {
	l := layer{chance: chance}
	if chance.Intn(2) == 0 {
		l.aliases(aliases)
		l.term(x)
	} else {
		l.term(x)
		l.aliases(aliases)
	}
	for i := range l.tree.Nodes {
		l.tree.Nodes[i].Pos = chance.Intn(100) - 50
	}
	for i := range l.tree.Types {
		l.tree.Types[i].Pos = chance.Intn(100) - 50
	}
	for i := range l.tree.Aliases {
		l.tree.Aliases[i].Pos = chance.Intn(100) - 50
	}
	return l.tree
}

// termOf: a tree's term, with what it is made of.
func termOf(t api.Tree, i int) term {
	x := term{head: t.Nodes[i]}
	for _, k := range x.head.Kids {
		x.kids = append(x.kids, termOf(t, k))
	}
	for _, k := range x.head.Types {
		x.types = append(x.types, typeOf(t, k))
	}
	x.head.Kids, x.head.Types = nil, nil
	return x
}

func typeOf(t api.Tree, i int) typed {
	x := typed{head: t.Types[i]}
	for _, k := range x.head.Kids {
		x.kids = append(x.kids, typeOf(t, k))
	}
	x.head.Kids = nil
	return x
}

// read: the tree of a text.
func read(t *testing.T, text string) api.Tree {
	t.Helper()
	x, d := parse.Text([]byte(text))
	if d.Error != api.OK {
		t.Fatalf("%q isn't parsed: %v", text, d)
	}
	return x
}

// sameType: are both trees, of types alone, the same?
func sameType(a api.Tree, i int, b api.Tree, j int) bool {
	around := func(x typed) api.Tree { return laid(held(number(0), x)) }
	return tree.Same(around(typeOf(a, i)), around(typeOf(b, j)))
}

// short: a text that may be long, as it can be told.
func short[T string | []byte](text T) string {
	if len(text) > 200 {
		return strconv.Quote(string(text[:100])) + " .. " + strconv.Quote(string(text[len(text)-100:]))
	}
	return strconv.Quote(string(text))
}

// prints looks whether a tree's text is what is asked, is parsed to the same tree, and that tree has the same text.
func prints(t *testing.T, x api.Tree, want string) {
	t.Helper()
	b, e := Text(x)
	if e != api.OK || string(b) != want {
		t.Errorf("Text answers %s, %d; it is %s", short(b), e, short(want))
		return
	}
	y, d := parse.Text(b)
	if d.Error != api.OK || !tree.Same(x, y) {
		t.Errorf("%s is parsed to another tree, %v", short(b), d)
	}
	if c, e := Text(y); e != api.OK || string(c) != want {
		t.Errorf("%s, parsed and printed, is %s, %d", short(want), short(c), e)
	}
}

// printsType looks the same up of a type.
func printsType(t *testing.T, x typed, want string) {
	t.Helper()
	var l layer
	root := l.typed(x)
	b, e := Type(l.tree, root)
	if e != api.OK || string(b) != want {
		t.Errorf("Type answers %s, %d; it is %s", short(b), e, short(want))
		return
	}
	y, d := parse.Type(b)
	if d.Error != api.OK || !sameType(l.tree, root, y, len(y.Types)-1) {
		t.Errorf("%s is parsed to another type, %v", short(b), d)
	}
	if c, e := Type(y, len(y.Types)-1); e != api.OK || string(c) != want {
		t.Errorf("%s, parsed and printed, is %s, %d", short(want), short(c), e)
	}
}

// bitsOf: a float's.
func bitsOf(t *testing.T, text string) uint64 {
	t.Helper()
	f, e := floats.Parse(text)
	if e != api.OK {
		t.Fatal(text, e)
	}
	return uint64(f)
}
