package scope_test

import (
	"math"
	"strings"
	"testing"

	"azimuth/api"
	"azimuth/scope"
	"azimuth/tree"
)

// outside: numbers that none of so many parts has.
func outside(n int) []int { return []int{-1, n, n + 1, -n - 1, math.MaxInt, math.MinInt} }

// refused looks whether a tree may not be, and nothing else is told of it.
func refused(t *testing.T, what string, x api.Tree) {
	t.Helper()
	if d := scope.Check(x); d != (api.Diag{Error: api.ErrForm}) {
		t.Errorf("%s: Check: %d at %d, %q", what, d.Error, d.Pos, d.Name)
	}
	if l := scope.Free(x); len(l) != 0 {
		t.Errorf("%s: Free: %q", what, l)
	}
	for _, i := range append(outside(len(x.Nodes)), 0, len(x.Nodes)/2, len(x.Nodes)-1) {
		if k, ok := scope.Binder(x, i); k != 0 || ok {
			t.Errorf("%s: Binder of %d: %d, %v", what, i, k, ok)
		}
	}
	for _, i := range append(outside(len(x.Types)), 0, len(x.Types)/2, len(x.Types)-1) {
		if k, e := scope.Through(x, i); k != 0 || e != api.ErrForm {
			t.Errorf("%s: Through of %d: %d, %d", what, i, k, e)
		}
	}
}

// forest is a tree of each kind of term and type, the first term a bound Var, the first type an alias's; of aliases and names nothing is wrong with it.
const forest = `type A = B; type B = {a: int, b: bool -> str}; type C = [#a A | #if float | ..];
let rec f = fun x -> x y in
case {a = 1, b = true} of
| #a p -> if p then #in "s" else (f p : dyn).l
| #q p -> let p = f'0000000000000000 in (p + 1 : any => none)
| else -> y end`

func grown(t *testing.T) api.Tree {
	t.Helper()
	x := read(t, forest)
	if d := scope.Check(x); d != (api.Diag{}) {
		t.Fatal(d)
	}
	return x
}

// of: the first term of a kind.
func of(x *api.Tree, kind int) *api.Node {
	for i := range x.Nodes {
		if x.Nodes[i].Kind == kind {
			return &x.Nodes[i]
		}
	}
	return nil
}

// ofTypes: the first type of a kind.
func ofTypes(x *api.Tree, kind int) *api.TypeNode {
	for i := range x.Types {
		if x.Types[i].Kind == kind {
			return &x.Types[i]
		}
	}
	return nil
}

// P7.1: terms that may not be, in each way of chapter 4.
func TestWrongTerms(t *testing.T) {
	name := func(kind int, s string) func(x *api.Tree) {
		return func(x *api.Tree) { of(x, kind).Name = s }
	}
	names := func(kind int, s string) func(x *api.Tree) {
		return func(x *api.Tree) { of(x, kind).Names = strings.Fields(s) }
	}
	for what, change := range map[string]func(x *api.Tree){
		"without terms":             func(x *api.Tree) { x.Nodes = nil },
		"with nothing":              func(x *api.Tree) { *x = api.Tree{} },
		"a kid below 0":             func(x *api.Tree) { of(x, api.Fun).Kids[0] = -1 },
		"a kid far below":           func(x *api.Tree) { of(x, api.LetRec).Kids[0] = math.MinInt },
		"a kid that isn't there":    func(x *api.Tree) { of(x, api.LetRec).Kids[0] = len(x.Nodes) },
		"a kid that is itself":      func(x *api.Tree) { x.Nodes[len(x.Nodes)-1].Kids[0] = len(x.Nodes) - 1 },
		"a kid with a great number": func(x *api.Tree) { of(x, api.Case).Kids[1] = math.MaxInt },
		"a kid behind":              func(x *api.Tree) { x.Nodes = append(x.Nodes[1:], x.Nodes[0]) },
		"a kid twice":               func(x *api.Tree) { of(x, api.If).Kids[1] = of(x, api.If).Kids[2] },
		"a kid of two":              func(x *api.Tree) { of(x, api.Let).Kids[0] = of(x, api.Fun).Kids[0] },
		"a term of none":            func(x *api.Tree) { x.Nodes = append(x.Nodes, api.Node{Kind: api.Int}) },
		"a kind below":              func(x *api.Tree) { of(x, api.Var).Kind = -1 },
		"a kind above":              func(x *api.Tree) { of(x, api.Var).Kind = api.Kinds },
		"a type below 0":            func(x *api.Tree) { of(x, api.Ascribe).Types[0] = -1 },
		"a type that isn't there":   func(x *api.Tree) { of(x, api.Cast).Types[1] = len(x.Types) },
		"a type of a term's twice":  func(x *api.Tree) { of(x, api.Cast).Types[1] = of(x, api.Cast).Types[0] },
		"a type of a type's":        func(x *api.Tree) { of(x, api.Ascribe).Types[0] = ofTypes(x, api.TFun).Kids[0] },
		"a Var that is a word":      name(api.Var, "let"),
		"a Var without a name":      name(api.Var, ""),
		"an Int with a name":        name(api.Int, "x"),
		"an Int below 0":            func(x *api.Tree) { of(x, api.Int).Int = -1 },
		"a Bool of 2":               func(x *api.Tree) { of(x, api.Bool).Int = 2 },
		"a Str that is no text":     name(api.Str, "\xff"),
		"a Str with a tab":          name(api.Str, "\t"),
		"a Float of another NaN":    func(x *api.Tree) { of(x, api.Float).Bits = 0x7ff8000000000000 },
		"a Fun with an alias":       name(api.Fun, "X"),
		"a Fun without a name":      name(api.Fun, ""),
		"a Fun without a kid":       func(x *api.Tree) { *x = api.Tree{Nodes: []api.Node{{Kind: api.Fun, Name: "x"}}} },
		"a LetRec without kids":     func(x *api.Tree) { *x = api.Tree{Nodes: []api.Node{{Kind: api.LetRec, Name: "x"}}} },
		"an App with a name":        name(api.App, "x"),
		"an App with Bits":          func(x *api.Tree) { of(x, api.App).Bits = 1 },
		"a Let without a name":      name(api.Let, ""),
		"a LetRec with a tag":       name(api.LetRec, "#f"),
		"an If with Int":            func(x *api.Tree) { of(x, api.If).Int = 1 },
		"a Case with odd Names":     names(api.Case, "a p q"),
		"a Case with few Names":     names(api.Case, "a p"),
		"a Case with many Names":    names(api.Case, "a p b p c p d p"),
		"a Case with a tag twice":   names(api.Case, "a p a q"),
		"a Case with a word":        names(api.Case, "a p q of"),
		"a Case with an empty name": func(x *api.Tree) { of(x, api.Case).Names[1] = "" },
		"a Tag with its sign":       name(api.Tag, "#q"),
		"a Record's name twice":     names(api.Record, "a a"),
		"a Record with few Names":   names(api.Record, "a"),
		"a Record with a word":      names(api.Record, "a end"),
		"a Select of a number":      name(api.Select, "0"),
		"an Op of no sign":          name(api.Op, ">"),
		"an Ascribe of two types":   func(x *api.Tree) { of(x, api.Cast).Kind = api.Ascribe },
		"a Cast of one type":        func(x *api.Tree) { of(x, api.Ascribe).Kind = api.Cast },
	} {
		x := grown(t)
		change(&x)
		refused(t, what, x)
	}
}

// P7.1: types and aliases that may not be, in each way of chapter 4.
func TestWrongTypes(t *testing.T) {
	name := func(kind int, s string) func(x *api.Tree) {
		return func(x *api.Tree) { ofTypes(x, kind).Name = s }
	}
	names := func(kind int, s string) func(x *api.Tree) {
		return func(x *api.Tree) { ofTypes(x, kind).Names = strings.Fields(s) }
	}
	open := func(kind int) func(x *api.Tree) { return func(x *api.Tree) { ofTypes(x, kind).Open = true } }
	kid := func(kind, i int) func(x *api.Tree) { return func(x *api.Tree) { ofTypes(x, kind).Kids[0] = i } }
	alias := func(i int) func(x *api.Tree) { return func(x *api.Tree) { x.Aliases[0].Type = i } }
	aliasName := func(s string) func(x *api.Tree) { return func(x *api.Tree) { x.Aliases[1].Name = s } }
	for what, change := range map[string]func(x *api.Tree){
		"a kid below 0":             kid(api.TFun, -1),
		"a kid that isn't there":    kid(api.TFun, 99),
		"a kid with a great number": kid(api.TRecord, math.MaxInt),
		"a kid that is itself":      func(x *api.Tree) { x.Types[len(x.Types)-1].Kids = []int{len(x.Types) - 1} },
		"a kid behind":              func(x *api.Tree) { ofTypes(x, api.TVariant).Kids[0] = len(x.Types) - 1 },
		"a kid twice":               func(x *api.Tree) { ofTypes(x, api.TFun).Kids[0] = ofTypes(x, api.TFun).Kids[1] },
		"a kid of two":              func(x *api.Tree) { ofTypes(x, api.TFun).Kids[0] = ofTypes(x, api.TRecord).Kids[0] },
		"a type of none":            func(x *api.Tree) { x.Types = append(x.Types, api.TypeNode{Kind: api.TInt}) },
		"a TAlias of none":          func(x *api.Tree) { x.Types = append(x.Types, api.TypeNode{Kind: api.TAlias, Name: "A"}) },
		"a kind below":              func(x *api.Tree) { ofTypes(x, api.TInt).Kind = -1 },
		"a kind above":              func(x *api.Tree) { ofTypes(x, api.TInt).Kind = api.TKinds },
		"a TInt with a name":        name(api.TInt, "A"),
		"a TNone that is Open":      open(api.TNone),
		"a TAny with Names":         names(api.TAny, "a"),
		"a TFun that is Open":       open(api.TFun),
		"a TFun with a name":        name(api.TFun, "A"),
		"a TFun of one":             func(x *api.Tree) { ofTypes(x, api.TFun).Kids = ofTypes(x, api.TFun).Kids[:1] },
		"a TRecord's name twice":    names(api.TRecord, "b b"),
		"a TRecord with few Names":  names(api.TRecord, "b"),
		"a TRecord with a word":     names(api.TRecord, "b of"),
		"a TRecord that is Open":    open(api.TRecord),
		"a TVariant's tag twice":    names(api.TVariant, "a a"),
		"a TVariant with many":      names(api.TVariant, "a b c"),
		"a TVariant with an alias":  names(api.TVariant, "a B"),
		"a TAlias with a name":      name(api.TAlias, "a"),
		"a TAlias with _":           name(api.TAlias, "A_"),
		"a TAlias without a name":   name(api.TAlias, ""),
		"an alias's name":           aliasName("b"),
		"an alias without a name":   aliasName(""),
		"an alias of a type below":  alias(-1),
		"an alias of none":          alias(99),
		"an alias far below":        alias(math.MinInt),
		"two aliases of one type":   func(x *api.Tree) { x.Aliases[0].Type = x.Aliases[1].Type },
		"an alias of a type's kid":  func(x *api.Tree) { x.Aliases[0].Type = ofTypes(x, api.TRecord).Kids[1] },
		"an alias without a type":   func(x *api.Tree) { x.Aliases = append(x.Aliases, api.Alias{Name: "D", Type: len(x.Types)}) },
		"without aliases":           func(x *api.Tree) { x.Aliases = nil },
		"without types":             func(x *api.Tree) { x.Types = nil },
	} {
		x := grown(t)
		change(&x)
		refused(t, what, x)
		x.Nodes = nil
		refused(t, what+", without terms", x)
	}
}

// P7.1: what may not be is told ahead of all else, and at 0.
func TestWrongAhead(t *testing.T) {
	for _, text := range []string{"type A = A; 1", "type A = B; 1", "type A = int; type A = int; 1", "let rec f = 1 in f", "fun x -> x y"} {
		x := read(t, text)
		x.Nodes[0].Bits = 1
		for i := range x.Nodes {
			x.Nodes[i].Pos = -5
		}
		refused(t, text, x)
	}
	refused(t, "no terms, but types and aliases", api.Tree{
		Types:   []api.TypeNode{{Kind: api.TAlias, Name: "A"}},
		Aliases: []api.Alias{{Name: "A"}},
	})
	refused(t, "no terms, but a type", api.Tree{Types: []api.TypeNode{{Kind: api.TInt}}})
}

// P7.1: each term, and each type, made wrong by one of a row of changes, is refused just if the tree may not be.
func TestWrongRow(t *testing.T) {
	terms := []func(n *api.Node){
		func(n *api.Node) { n.Kind++ },
		func(n *api.Node) { n.Kind-- },
		func(n *api.Node) { n.Name += "!" },
		func(n *api.Node) { n.Int ^= -1 },
		func(n *api.Node) { n.Bits ^= 0x7ff0000000000011 },
		func(n *api.Node) { n.Names = append(n.Names, "a") },
		func(n *api.Node) { n.Kids = append(n.Kids, 0) },
		func(n *api.Node) { n.Kids = append(n.Kids, -1) },
		func(n *api.Node) { n.Kids = n.Kids[:len(n.Kids)/2] },
		func(n *api.Node) { n.Types = append(n.Types, 0) },
		func(n *api.Node) { n.Types = n.Types[:len(n.Types)/2] },
	}
	types := []func(n *api.TypeNode){
		func(n *api.TypeNode) { n.Kind++ },
		func(n *api.TypeNode) { n.Kind-- },
		func(n *api.TypeNode) { n.Name += "a" },
		func(n *api.TypeNode) { n.Names = append(n.Names, "a") },
		func(n *api.TypeNode) { n.Kids = append(n.Kids, 0) },
		func(n *api.TypeNode) { n.Kids = n.Kids[:len(n.Kids)/2] },
		func(n *api.TypeNode) { n.Open = !n.Open },
	}
	whole := grown(t)
	many := 0
	look := func(x api.Tree) {
		if tree.Check(x) == api.OK {
			asAnew(t, x)
		} else {
			many++
			refused(t, "one of a row", x)
		}
	}
	for i := range whole.Nodes {
		for _, change := range terms {
			x := tree.Clone(whole)
			change(&x.Nodes[i])
			look(x)
		}
	}
	for i := range whole.Types {
		for _, change := range types {
			x := tree.Clone(whole)
			change(&x.Types[i])
			look(x)
		}
	}
	if many < 250 {
		t.Error(many)
	}
}
