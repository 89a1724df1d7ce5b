package alone_test

import (
	"math"
	"reflect"
	"testing"

	"azimuth/alone"
	"azimuth/api"
	"azimuth/parse"
	"azimuth/tree"
)

func read(t *testing.T, text string) api.Tree {
	t.Helper()
	x, d := parse.Text([]byte(text))
	if d.Error != api.OK {
		t.Fatalf("%q isn't parsed: %v", text, d)
	}
	return x
}

const text = "type A = int; type B = {a: A, b: [#c int | ..]}; (x : B => {} -> any) (y : B)"

// P6.1, P8.1: a tree with terms is asked as it is.
func TestWithTerms(t *testing.T) {
	if e := alone.Check(read(t, text)); e != api.OK {
		t.Error(e)
	}
	for what, change := range map[string]func(x *api.Tree){
		"a type that no term has": func(x *api.Tree) { x.Types = append(x.Types, api.TypeNode{}) },
		"a kid of two":            func(x *api.Tree) { x.Nodes[1].Kids = []int{0, 0} },
		"a kind that there isn't": func(x *api.Tree) { x.Types[0].Kind = api.TKinds },
		"an alias less":           func(x *api.Tree) { x.Aliases = x.Aliases[1:] },
		"a term, and a type":      func(x *api.Tree) { *x = api.Tree{Nodes: []api.Node{{Kind: api.Int}}, Types: x.Types[:1]} },
		"too many terms":          func(x *api.Tree) { x.Nodes = make([]api.Node, api.MaxNodes+1) },
	} {
		x := read(t, text)
		change(&x)
		if e := alone.Check(x); e != api.ErrForm {
			t.Errorf("%s: %d", what, e)
		}
	}
}

// P6.1, P8.1: in a tree without terms, types may be had by nothing; else they are asked as in one with terms.
func TestWithoutTerms(t *testing.T) {
	bare := func() api.Tree {
		x := read(t, text)
		x.Nodes = nil
		return x
	}
	for what, change := range map[string]func(x *api.Tree){
		"as it is":              func(x *api.Tree) {},
		"an empty list":         func(x *api.Tree) { x.Nodes = []api.Node{} },
		"nothing":               func(x *api.Tree) { *x = api.Tree{} },
		"without aliases":       func(x *api.Tree) { x.Aliases = nil },
		"an alias less":         func(x *api.Tree) { x.Aliases = x.Aliases[1:] },
		"a type that none has":  func(x *api.Tree) { x.Types = append(x.Types, api.TypeNode{}) },
		"types that none has":   func(x *api.Tree) { x.Types = append(x.Types, api.TypeNode{}, api.TypeNode{Kind: api.TAny}) },
		"a row of types":        func(x *api.Tree) { *x = api.Tree{Types: make([]api.TypeNode, 7)} },
		"another row":           func(x *api.Tree) { *x = api.Tree{Types: make([]api.TypeNode, 8)} },
		"one less than may be":  func(x *api.Tree) { *x = api.Tree{Types: make([]api.TypeNode, api.MaxNodes-1)} },
		"as many as there may":  func(x *api.Tree) { *x = api.Tree{Types: make([]api.TypeNode, api.MaxNodes)} },
		"an alias of one alone": func(x *api.Tree) { *x = api.Tree{Types: x.Types[:1], Aliases: x.Aliases[:1]} },
	} {
		x := bare()
		change(&x)
		if e := alone.Check(x); e != api.OK {
			t.Errorf("%s: %d", what, e)
		}
		if e := tree.Check(x); e != api.ErrForm {
			t.Errorf("%s: the test's own tree is wrong: %d", what, e)
		}
	}
	last := len(bare().Types) - 1
	for what, change := range map[string]func(x *api.Tree){
		"a kind that there isn't": func(x *api.Tree) { x.Types[0].Kind = api.TKinds },
		"a last one that may not": func(x *api.Tree) { x.Types[last].Name = "a" },
		"a kid below 0":           func(x *api.Tree) { x.Types[last].Kids = []int{-1} },
		"a kid far below":         func(x *api.Tree) { x.Types[last].Kids = []int{math.MinInt} },
		"a kid just behind":       func(x *api.Tree) { x.Types[last].Kids = []int{last + 1} },
		"a kid far behind":        func(x *api.Tree) { x.Types[last].Kids = []int{math.MaxInt} },
		"a kid of two": func(x *api.Tree) {
			x.Types = append(x.Types, api.TypeNode{Kind: api.TRecord, Names: []string{"a"}, Kids: []int{0}})
		},
		"an alias of a type below":  func(x *api.Tree) { x.Aliases[0].Type = -1 },
		"an alias of a type behind": func(x *api.Tree) { x.Aliases[0].Type = last + 1 },
		"two aliases of a type":     func(x *api.Tree) { x.Aliases[0].Type = x.Aliases[1].Type },
		"an alias without a name":   func(x *api.Tree) { x.Aliases[0].Name = "" },
		"an alias alone":            func(x *api.Tree) { *x = api.Tree{Aliases: []api.Alias{{Name: "A"}}} },
		"too many":                  func(x *api.Tree) { *x = api.Tree{Types: make([]api.TypeNode, api.MaxNodes+1)} },
	} {
		x := bare()
		change(&x)
		if e := alone.Check(x); e != api.ErrForm {
			t.Errorf("%s: %d", what, e)
		}
	}
}

// P6.2, P8.3: what is handed in isn't changed, its spare room neither.
func TestUnchanged(t *testing.T) {
	for _, terms := range []bool{true, false} {
		x := read(t, text)
		x.Nodes = append(x.Nodes, api.Node{Kind: -7})
		x.Nodes = x.Nodes[:len(x.Nodes)-1]
		if !terms {
			x.Nodes = x.Nodes[:0]
		}
		shown := func() api.Tree {
			y := tree.Clone(api.Tree{Nodes: x.Nodes[:cap(x.Nodes)], Types: x.Types[:cap(x.Types)], Aliases: x.Aliases[:cap(x.Aliases)]})
			return y
		}
		was := shown()
		alone.Check(x)
		if !reflect.DeepEqual(shown(), was) {
			t.Error("Check changes what is handed in")
		}
	}
}
