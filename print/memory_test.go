package print

import (
	"reflect"
	"testing"

	"azimuth/api"
)

// roomy is bush, with spare room behind each list.
func roomy(t *testing.T) api.Tree {
	t.Helper()
	x := bush(t)
	number := func(l []int) []int { return append(append(make([]int, 0, len(l)+2), l...), -7, -7)[:len(l)] }
	name := func(l []string) []string {
		return append(append(make([]string, 0, len(l)+2), l...), "spare", "spare")[:len(l)]
	}
	for i, n := range x.Nodes {
		x.Nodes[i].Kids, x.Nodes[i].Types, x.Nodes[i].Names = number(n.Kids), number(n.Types), name(n.Names)
	}
	for i, n := range x.Types {
		x.Types[i].Kids, x.Types[i].Names = number(n.Kids), name(n.Names)
	}
	x.Nodes = append(x.Nodes, api.Node{Name: "spare"})[:len(x.Nodes)]
	x.Types = append(x.Types, api.TypeNode{Name: "spare"})[:len(x.Types)]
	x.Aliases = append(x.Aliases, api.Alias{Name: "Spare"})[:len(x.Aliases)]
	return x
}

// spread: a tree with all of its spare room to be seen.
func spread(x api.Tree) api.Tree {
	y := api.Tree{Aliases: append([]api.Alias(nil), x.Aliases[:len(x.Aliases)+1]...)}
	for _, n := range x.Nodes[:len(x.Nodes)+1] {
		n.Kids, n.Types = append([]int(nil), n.Kids[:cap(n.Kids)]...), append([]int(nil), n.Types[:cap(n.Types)]...)
		n.Names = append([]string(nil), n.Names[:cap(n.Names)]...)
		y.Nodes = append(y.Nodes, n)
	}
	for _, n := range x.Types[:len(x.Types)+1] {
		n.Kids, n.Names = append([]int(nil), n.Kids[:cap(n.Kids)]...), append([]string(nil), n.Names[:cap(n.Names)]...)
		y.Types = append(y.Types, n)
	}
	return y
}

// P6.2: what is handed in isn't changed, its spare room neither.
func TestUnchanged(t *testing.T) {
	x := roomy(t)
	was := spread(x)
	look := func(what string) {
		t.Helper()
		if !reflect.DeepEqual(spread(x), was) {
			t.Errorf("%s changes what is handed in", what)
		}
	}
	look("nothing")
	Text(x)
	look("Text")
	for i := -1; i <= len(x.Nodes); i++ {
		Term(x, i)
		look("Term")
	}
	for i := -1; i <= len(x.Types); i++ {
		Type(x, i)
		look("Type")
	}
	terms := x.Nodes
	x.Nodes = x.Nodes[:0]
	for i := -1; i <= len(x.Types); i++ {
		Type(x, i)
	}
	Text(x)
	x.Nodes = terms
	look("Type, without terms,")
	x.Nodes[3].Kids = append(x.Nodes[3].Kids, 99)
	was = spread(x)
	Text(x)
	Term(x, 0)
	Type(x, 0)
	look("one that may not be")
}

// answers are a tree's text, and those of each of its terms and types.
func answers(t *testing.T, x api.Tree) [][]byte {
	t.Helper()
	var l [][]byte
	add := func(b []byte, e api.Errno) {
		if e != api.OK {
			t.Fatal(e)
		}
		l = append(l, b)
	}
	add(Text(x))
	for i := range x.Nodes {
		add(Term(x, i))
	}
	for i := range x.Types {
		add(Type(x, i))
	}
	return l
}

// P6.2: answers are new memory; what becomes of one, or of the tree, is nothing to the others.
func TestNewMemory(t *testing.T) {
	x := bush(t)
	one, two := answers(t, x), answers(t, x)
	for _, b := range one {
		b = b[:cap(b)]
		for i := range b {
			b[i] = '!'
		}
	}
	for i, b := range answers(t, x) {
		if string(b) != string(two[i]) {
			t.Errorf("%q, and %q", b, two[i])
		}
	}
	for i := range x.Nodes {
		x.Nodes[i] = api.Node{Kind: api.Int, Int: 7}
	}
	for i := range x.Types {
		x.Types[i].Names, x.Types[i].Name = nil, "X"
	}
	for i, b := range answers(t, bush(t)) {
		if string(b) != string(two[i]) {
			t.Errorf("%q, and %q", b, two[i])
		}
	}
	// What is told hangs on the tree as it is at the call.
	y := read(t, "f x")
	if b, e := Text(y); e != api.OK || string(b) != "f x" {
		t.Error(b, e)
	}
	y.Nodes[0].Name = "g"
	if b, e := Text(y); e != api.OK || string(b) != "g x" {
		t.Error(b, e)
	}
	y.Nodes[0].Name = "in"
	if b, e := Text(y); e != api.ErrForm || b != nil {
		t.Error(b, e)
	}
	y.Nodes[0].Name = "h"
	if b, e := Text(y); e != api.OK || string(b) != "h x" {
		t.Error(b, e)
	}
}
