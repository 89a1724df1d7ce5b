package tree

import (
	"slices"
	"testing"

	"azimuth/api"
)

// fill hands a builder all of a tree.
func fill(b *Builder, t api.Tree) {
	for _, n := range t.Nodes {
		b.Term(n)
	}
	for _, n := range t.Types {
		b.Type(n)
	}
	for _, a := range t.Aliases {
		b.Alias(a)
	}
}

// P4.2: numbers from 0 on, terms and types each by themselves, and the tree as it was handed in.
func TestBuilder(t *testing.T) {
	b := New()
	if x := b.Tree(); len(x.Nodes)+len(x.Types)+len(x.Aliases) != 0 {
		t.Error(x)
	}
	want := bush()
	for i, n := range want.Nodes {
		if at, e := b.Term(n); at != i || e != api.OK {
			t.Error(at, e)
		}
		if i < len(want.Types) {
			if at, e := b.Type(want.Types[i]); at != i || e != api.OK {
				t.Error(at, e)
			}
		}
		if x := b.Tree(); !slices.EqualFunc(x.Nodes, want.Nodes[:i+1], func(x, y api.Node) bool { return x.Kind == y.Kind }) || len(x.Types) != min(i+1, len(want.Types)) || len(x.Aliases) != 0 {
			t.Error(i, x)
		}
	}
	for _, a := range want.Aliases {
		b.Alias(a)
	}
	for range 2 {
		if x := b.Tree(); !equal(x, want) || Check(x) != api.OK || !Same(x, want) {
			t.Error(x)
		}
	}
	other := New()
	if at, e := other.Term(api.Node{Kind: api.Int}); at != 0 || e != api.OK {
		t.Error(at, e)
	}
	if x := other.Tree(); len(x.Nodes) != 1 || len(x.Types)+len(x.Aliases) != 0 {
		t.Error(x)
	}
	if x := b.Tree(); !equal(x, want) {
		t.Error(x)
	}
}

// P4.2: whether what is built may be isn't asked.
func TestBuilderOfAnything(t *testing.T) {
	x := api.Tree{
		Nodes: []api.Node{
			{Kind: -1, Pos: -2, Name: "\xff", Int: -3, Bits: oneNone + 1, Names: []string{"", "a", "a"}, Kids: []int{-1, 0, 9}, Types: []int{7, 7}},
			{Kind: api.Fun, Name: "let", Kids: []int{1}}, {},
		},
		Types:   []api.TypeNode{{Kind: 99, Pos: 8, Name: "\x00", Names: []string{"b"}, Kids: []int{5, -5}, Open: true}, {}},
		Aliases: []api.Alias{{Name: "a", Type: -1, Pos: -1}, {}, {Name: "a", Type: 3, Pos: 7}},
	}
	b := New()
	for i, n := range x.Nodes {
		if at, e := b.Term(n); at != i || e != api.OK {
			t.Error(at, e)
		}
	}
	for i, n := range x.Types {
		if at, e := b.Type(n); at != i || e != api.OK {
			t.Error(at, e)
		}
	}
	for _, a := range x.Aliases {
		b.Alias(a)
	}
	if y := b.Tree(); !equal(x, y) {
		t.Error(y)
	}
}

// P4.2: just MaxNodes terms, and types; one more is refused, and changes nothing.
func TestBuilderFull(t *testing.T) {
	terms, types := New(), New()
	for i := range api.MaxNodes {
		if at, e := terms.Term(api.Node{Kind: api.Int, Int: int64(i)}); at != i || e != api.OK {
			t.Fatal(at, e)
		}
		if at, e := types.Type(api.TypeNode{Kind: api.TBool, Pos: i}); at != i || e != api.OK {
			t.Fatal(at, e)
		}
	}
	for range 3 {
		if at, e := terms.Term(api.Node{Kind: api.Bool}); at != 0 || e != api.ErrLong {
			t.Error(at, e)
		}
		if at, e := types.Type(api.TypeNode{Kind: api.TStr}); at != 0 || e != api.ErrLong {
			t.Error(at, e)
		}
	}
	x, y := terms.Tree(), types.Tree()
	if len(x.Nodes) != api.MaxNodes || len(x.Types) != 0 || len(y.Types) != api.MaxNodes || len(y.Nodes) != 0 {
		t.Error(len(x.Nodes), len(x.Types), len(y.Types), len(y.Nodes))
	}
	for i := range api.MaxNodes {
		if x.Nodes[i].Kind != api.Int || x.Nodes[i].Int != int64(i) || y.Types[i].Kind != api.TBool || y.Types[i].Pos != i {
			t.Fatal(i)
		}
	}
	// One being full, the other isn't; aliases have no such end.
	if at, e := terms.Type(api.TypeNode{}); at != 0 || e != api.OK {
		t.Error(at, e)
	}
	if at, e := types.Term(api.Node{}); at != 0 || e != api.OK {
		t.Error(at, e)
	}
	for range api.MaxNodes + 2 {
		types.Alias(api.Alias{Name: "A"})
	}
	if n := len(types.Tree().Aliases); n != api.MaxNodes+2 {
		t.Error(n)
	}
}

// P4.2: a builder that isn't there.
func TestNoBuilder(t *testing.T) {
	var b *Builder
	for range 2 {
		if at, e := b.Term(api.Node{Kind: api.Int}); at != 0 || e != api.ErrArg {
			t.Error(at, e)
		}
		if at, e := b.Type(api.TypeNode{Kind: api.TInt}); at != 0 || e != api.ErrArg {
			t.Error(at, e)
		}
		b.Alias(api.Alias{Name: "A"})
		if x := b.Tree(); len(x.Nodes)+len(x.Types)+len(x.Aliases) != 0 {
			t.Error(x)
		}
	}
}

// P4.3: a builder keeps nothing of what is handed in, and hands out nothing that it keeps.
func TestBuilderMemory(t *testing.T) {
	x, want := bush(), bush()
	b := New()
	fill(b, x)
	scribble(x, -100)
	if y := b.Tree(); !equal(y, want) {
		t.Errorf("what was handed in is kept: %v", y)
	}
	one, two := b.Tree(), b.Tree()
	scribble(one, -200)
	if !equal(two, want) {
		t.Errorf("answers share memory: %v", two)
	}
	scribble(b.Tree(), -300)
	if y := b.Tree(); !equal(y, want) {
		t.Errorf("an answer was kept: %v", y)
	}
	// Building on doesn't change what was answered.
	b.Term(api.Node{Kind: api.Fun, Name: "y", Kids: []int{7}})
	b.Type(api.TypeNode{Kind: api.TStr})
	b.Alias(api.Alias{Name: "B", Type: 3})
	if !equal(two, want) {
		t.Errorf("an answer is built on: %v", two)
	}
	if y := b.Tree(); len(y.Nodes) != 9 || len(y.Types) != 4 || len(y.Aliases) != 2 || Check(y) != api.OK {
		t.Error(y)
	}
	// Nor does an answer's spare room reach what is built.
	three := b.Tree()
	b.Term(api.Node{Kind: api.Fun, Name: "w", Kids: []int{8}})
	b.Type(api.TypeNode{Kind: api.TAlias, Name: "W"})
	b.Alias(api.Alias{Name: "W"})
	_ = append(three.Nodes, api.Node{Name: "z"})
	_ = append(three.Types, api.TypeNode{Name: "z"})
	_ = append(three.Aliases, api.Alias{Name: "Z"})
	if y := b.Tree(); len(y.Nodes) != 10 || y.Nodes[9].Name != "w" || len(y.Types) != 5 || y.Types[4].Name != "W" || len(y.Aliases) != 3 || y.Aliases[2].Name != "W" {
		t.Error(y)
	}
}
