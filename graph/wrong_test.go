package graph_test

import (
	"strings"
	"testing"

	"azimuth/api"
	"azimuth/graph"
	"azimuth/parse"
	"azimuth/print"
	"azimuth/tree"
)

// refused looks whether a graph may not be, and nothing is told of it.
func refused(t *testing.T, what string, g api.Graph) {
	t.Helper()
	if e := graph.Check(g); e != api.ErrForm {
		t.Errorf("%s: Check: %d", what, e)
	}
	if x, e := graph.Normal(g); e != api.ErrForm || !equal(x, api.Graph{}) {
		t.Errorf("%s: Normal: %v, %d", what, short(x), e)
	}
	if b, e := graph.Bytes(g); e != api.ErrForm || len(b) != 0 {
		t.Errorf("%s: Bytes: %.200q, %d", what, b, e)
	}
	for _, i := range append(outside(len(g.L)), 0, len(g.L)-1, g.Root) {
		if x, e := graph.At(g, i); e != api.ErrForm || !equal(x, api.Graph{}) {
			t.Errorf("%s: At %d: %v, %d", what, i, short(x), e)
		}
	}
	if good := made(0, "i"); graph.Same(g, g) || graph.Same(g, good) || graph.Same(good, g) {
		t.Errorf("%s: Same", what)
	}
}

// grown is a graph with a head of each kind, all of which may be; the root comes to the first ten.
func grown() api.Graph {
	return made(0,
		"{ a:1 b:2 c:3 d:4 e:5 f:6 g:7 h:8 i:9", "i", "b", "s", "f", "d", "*", "!", "> 1 0", "] a:9 in:8",
		"[ c:11", "> 9 9", "{", "i", "]")
}

// The numbers of heads of grown, to which the root comes, and doesn't.
const (
	someRecord, someInt, someAny, someFun, someVariant = 0, 1, 6, 8, 9
	farVariant, farFun, farRecord, farInt, farOpen     = 10, 11, 12, 13, 14
)

// P8.1: graphs that may not be, in each way, wherever in it it is wrong.
func TestWrongGraphs(t *testing.T) {
	asAnew(t, grown())
	head := func(change func(h *api.Head), at ...int) func(g *api.Graph) {
		return func(g *api.Graph) {
			for _, i := range at {
				change(&g.L[i])
			}
		}
	}
	kind := func(k int) func(h *api.Head) { return func(h *api.Head) { h.Kind = k } }
	kid := func(place, to int) func(h *api.Head) { return func(h *api.Head) { h.Kids[place] = to } }
	kids := func(l ...int) func(h *api.Head) { return func(h *api.Head) { h.Kids = l } }
	names := func(text string) func(h *api.Head) { return func(h *api.Head) { h.Names = strings.Fields(text) } }
	open := func(h *api.Head) { h.Open = true }
	root := func(i int) func(g *api.Graph) { return func(g *api.Graph) { g.Root = i } }
	n := len(grown().L)
	for what, change := range map[string]func(g *api.Graph){
		"no heads":                      func(g *api.Graph) { g.L = nil },
		"an empty list":                 func(g *api.Graph) { g.L = []api.Head{} },
		"the root below 0":              root(-1),
		"the root far below":            root(least),
		"the root just behind the last": root(n),
		"the root far behind":           root(most),
		"a kind below":                  head(kind(-1), someInt),
		"a kind far below":              head(kind(least), someInt),
		"a kind of TAlias":              head(kind(api.TAlias), someInt),
		"a kind above":                  head(kind(api.TKinds), someInt),
		"a kind far above":              head(kind(most), someInt),
		"a kind that would wrap":        head(kind(256), someInt),
		"a far kind below":              head(kind(-1), farInt),
		"a far kind above":              head(kind(api.TAlias), farInt),
		"a kid below 0":                 head(kid(0, -1), someFun),
		"a kid far below":               head(kid(1, least), someFun),
		"a kid just behind the last":    head(kid(1, n), someFun),
		"a kid far behind":              head(kid(0, most), someFun),
		"a record's kid below 0":        head(kid(8, -1), someRecord),
		"a record's kid behind":         head(kid(0, n), someRecord),
		"a variant's kid below 0":       head(kid(0, -1), someVariant),
		"a variant's kid behind":        head(kid(1, n), someVariant),
		"a far kid below 0":             head(kid(0, -1), farFun),
		"a far kid behind":              head(kid(1, n), farFun),
		"a far variant's kid behind":    head(kid(0, n), farVariant),
		"a TFun without kids":           head(kids(), someFun),
		"a TFun of one":                 head(kids(1), someFun),
		"a TFun of three":               head(kids(1, 1, 1), someFun),
		"a TFun of four":                head(kids(1, 1, 1, 1), someFun),
		"a far TFun of one":             head(kids(1), farFun),
		"a far TFun of three":           head(kids(1, 1, 1), farFun),
		"a TFun with a name":            head(names("a"), someFun),
		"a TFun with two names":         head(names("a b"), someFun, farFun),
		"a TFun that is open":           head(open, someFun),
		"a far TFun that is open":       head(open, farFun),
		"a TInt with a kid":             head(kids(1), someInt),
		"a TInt with two kids":          head(kids(1, 1), farInt),
		"a TInt with a name":            head(names("a"), someInt),
		"a TInt that is open":           head(open, someInt),
		"a far TInt that is open":       head(open, farInt),
		"a TInt with a field": head(func(h *api.Head) {
			h.Names, h.Kids = []string{"a"}, []int{1}
		}, someInt),
		"a TAny with a kid":              head(kids(0), someAny),
		"a TAny with a name":             head(names("a"), someAny),
		"a TAny that is open":            head(open, someAny),
		"a record with too few kids":     head(kids(1, 2, 3), someRecord),
		"a record with too many kids":    head(kids(1), farRecord),
		"a record with too many names":   head(names("a"), farRecord),
		"a record with too few names":    head(names("a b c d e f g h"), someRecord),
		"a record without names":         head(names(""), someRecord),
		"a record with one name more":    head(names("a b c d e f g h i j"), someRecord),
		"a record that is open":          head(open, someRecord),
		"a far record that is open":      head(open, farRecord),
		"a variant with too few kids":    head(kids(1), someVariant),
		"a variant without kids":         head(kids(), someVariant),
		"a variant with too many kids":   head(kids(1, 2, 3), someVariant),
		"a variant with too few names":   head(names("a"), someVariant),
		"a variant with too many names":  head(names("a b c"), someVariant),
		"a far variant without names":    head(names(""), farVariant),
		"a far variant with a kid":       head(kids(1), farOpen),
		"a far variant with a name":      head(names("a"), farOpen),
		"a variant's names fall":         head(names("in a"), someVariant),
		"a variant's name twice":         head(names("in in"), someVariant),
		"a variant's names fall, by one": head(names("ab a"), someVariant),
		"a record's names fall":          head(names("b a c d e f g h i"), someRecord),
		"a record's last names fall":     head(names("a b c d e f g i h"), someRecord),
		"a record's first name twice":    head(names("a a c d e f g h i"), someRecord),
		"a record's last name twice":     head(names("a b c d e f g h h"), someRecord),
		"a record's name far behind":     head(names("b c d e f g h i a"), someRecord),
		"a far variant's name twice": head(func(h *api.Head) {
			h.Names, h.Kids = []string{"a", "a"}, []int{1, 1}
		}, farOpen),
	} {
		g := grown()
		change(&g)
		refused(t, what, g)
		if mayBeAnew(g) {
			t.Errorf("%s: the test's own words are wrong", what)
		}
	}
}

// P8.1: each of the kinds asks what it asks, and nothing else: all heads with few names and kids.
func TestAsked(t *testing.T) {
	for kind := -1; kind <= api.TKinds; kind++ {
		for _, names := range []string{"", "a", "b", "a b", "b a", "a a", "a b c", "a c b", "a b c d"} {
			for kids := range 5 {
				for _, open := range []bool{false, true} {
					h := api.Head{Kind: kind, Names: strings.Fields(names), Kids: []int{1, 0, 1, 0}[:kids], Open: open}
					asAnew(t, api.Graph{L: []api.Head{h, {Kind: api.TInt}}})
					asAnew(t, api.Graph{L: []api.Head{h, {Kind: api.TInt}}, Root: 1})
					asAnew(t, api.Graph{L: []api.Head{{Kind: api.TFun, Kids: []int{1, 1}}, h}})
				}
			}
		}
	}
}

// P8.1: names are names, of variants they may be words, as chapter 4 has them; so no other name can stand in the bytes.
func TestNames(t *testing.T) {
	for name, kinds := range map[string]int{ // 2: of both, 1: of variants alone
		"a": 2, "z": 2, "_": 2, "__": 2, "a0": 2, "_0": 2, "ab_9": 2, "lets": 2, "f": 2, "x1": 2, strings.Repeat("a", 1000): 2,
		"let": 1, "int": 1, "fun": 1, "type": 1, "none": 1, "true": 1, "rec": 1, "end": 1,
		"": 0, "A": 0, "aB": 0, "0": 0, "0a": 0, "#a": 0, "a:": 0, "a:1,b": 0, "a;": 0, "a,": 0, " ": 0, "a ": 0, " a": 0, "a-b": 0, "a.b": 0, "\x00": 0, "\xff": 0, "é": 0, "a\n": 0, "'a": 0, "..": 0, "{": 0, "`": 0, "a/": 0,
	} {
		record := api.Graph{L: []api.Head{{Kind: api.TRecord, Names: []string{name}, Kids: []int{0}}}}
		closed := api.Graph{L: []api.Head{{Kind: api.TVariant, Names: []string{name}, Kids: []int{0}}}}
		open := api.Graph{L: []api.Head{{Kind: api.TVariant, Names: []string{name}, Kids: []int{0}, Open: true}}}
		for least, g := range map[int][]api.Graph{1: {closed, open}, 2: {record}} {
			for _, x := range g {
				if mayBeAnew(x) != (kinds >= least) {
					t.Fatalf("%q: the test's own words are wrong", name)
				}
				asAnew(t, x)
			}
		}
		for _, sign := range []string{"{", "[", "]"} {
			bytesAsAnew(t, sign+name+":0,;")
			bytesAsAnew(t, sign+"a:1,"+name+":1,;i;")
			bytesAsAnew(t, sign+name+":1,zz:1,;i;")
		}
		// A name among others.
		l := []string{"aa", name}
		if name < "aa" {
			l = []string{name, "aa"}
		}
		asAnew(t, api.Graph{L: []api.Head{{Kind: api.TRecord, Names: l, Kids: []int{0, 0}}}})
		asAnew(t, api.Graph{L: []api.Head{{Kind: api.TInt}, {Kind: api.TVariant, Names: l, Kids: []int{0, 1}}}})
	}
}

// refusedTypes looks whether a tree may not be, whichever of its types is asked.
func refusedTypes(t *testing.T, what string, x api.Tree) {
	t.Helper()
	for _, i := range append(outside(len(x.Types)), 0, 1, len(x.Types)/2, len(x.Types)-1) {
		if g, e := graph.Of(x, i); e != api.ErrForm || !equal(g, api.Graph{}) {
			t.Errorf("%s: Of %d: %v, %d", what, i, short(g), e)
		}
	}
}

// forest is a tree of each kind of term and type, with an alias that has no name, and one that loops.
const forest = `type A = B; type B = {a: int, b: bool -> str}; type C = [#a A | #if float | ..]; type D = D;
let rec f = fun x -> x y in
case {a = 1, b = true} of
| #a p -> if p then #in "s" else (f p : dyn).l
| #q p -> let p = f'0000000000000000 in (p + 1 : any => none)
| else -> (y : E) end`

func planted(t *testing.T) api.Tree {
	t.Helper()
	x, d := parse.Text([]byte(forest))
	if d.Error != api.OK {
		t.Fatal(d)
	}
	return x
}

// term: the first of a kind.
func term(x *api.Tree, kind int) *api.Node {
	for i := range x.Nodes {
		if x.Nodes[i].Kind == kind {
			return &x.Nodes[i]
		}
	}
	return nil
}

// typed: the first of a kind.
func typed(x *api.Tree, kind int) *api.TypeNode {
	for i := range x.Types {
		if x.Types[i].Kind == kind {
			return &x.Types[i]
		}
	}
	return nil
}

// P8.1: trees whose terms may not be, in each way of chapter 4; so may none of their types be asked.
func TestWrongTerms(t *testing.T) {
	typesAsAnew(t, planted(t))
	name := func(kind int, s string) func(x *api.Tree) { return func(x *api.Tree) { term(x, kind).Name = s } }
	names := func(kind int, s string) func(x *api.Tree) {
		return func(x *api.Tree) { term(x, kind).Names = strings.Fields(s) }
	}
	for what, change := range map[string]func(x *api.Tree){
		"a kid below 0":             func(x *api.Tree) { term(x, api.Fun).Kids[0] = -1 },
		"a kid that isn't there":    func(x *api.Tree) { term(x, api.LetRec).Kids[0] = len(x.Nodes) },
		"a kid that is itself":      func(x *api.Tree) { x.Nodes[len(x.Nodes)-1].Kids[0] = len(x.Nodes) - 1 },
		"a kid behind":              func(x *api.Tree) { x.Nodes = append(x.Nodes[1:], x.Nodes[0]) },
		"a kid twice":               func(x *api.Tree) { term(x, api.If).Kids[1] = term(x, api.If).Kids[2] },
		"a kid of two":              func(x *api.Tree) { term(x, api.Let).Kids[0] = term(x, api.Fun).Kids[0] },
		"a term of none":            func(x *api.Tree) { x.Nodes = append(x.Nodes, api.Node{Kind: api.Int}) },
		"a kind below":              func(x *api.Tree) { term(x, api.Var).Kind = -1 },
		"a kind above":              func(x *api.Tree) { term(x, api.Var).Kind = api.Kinds },
		"a type below 0":            func(x *api.Tree) { term(x, api.Ascribe).Types[0] = -1 },
		"a type that isn't there":   func(x *api.Tree) { term(x, api.Cast).Types[1] = len(x.Types) },
		"a type of a term's twice":  func(x *api.Tree) { term(x, api.Cast).Types[1] = term(x, api.Cast).Types[0] },
		"a type of a type's":        func(x *api.Tree) { term(x, api.Ascribe).Types[0] = typed(x, api.TFun).Kids[0] },
		"a type of no term's":       func(x *api.Tree) { x.Nodes = x.Nodes[:1] },
		"a Var that is a word":      name(api.Var, "let"),
		"an Int below 0":            func(x *api.Tree) { term(x, api.Int).Int = -1 },
		"a Bool of 2":               func(x *api.Tree) { term(x, api.Bool).Int = 2 },
		"a Str that is no text":     name(api.Str, "\xff"),
		"a Float of another NaN":    func(x *api.Tree) { term(x, api.Float).Bits = 0x7ff8000000000000 },
		"a Fun with an alias":       name(api.Fun, "X"),
		"a LetRec without kids":     func(x *api.Tree) { term(x, api.LetRec).Kids = nil },
		"an App with a name":        name(api.App, "x"),
		"a Let without a name":      name(api.Let, ""),
		"an If with Int":            func(x *api.Tree) { term(x, api.If).Int = 1 },
		"a Case with a tag twice":   names(api.Case, "a p a q"),
		"a Case with odd Names":     names(api.Case, "a p q"),
		"a Tag with its sign":       name(api.Tag, "#q"),
		"a Record's name twice":     names(api.Record, "a a"),
		"a Select of a number":      name(api.Select, "0"),
		"an Op of no sign":          name(api.Op, ">"),
		"an Ascribe of two types":   func(x *api.Tree) { term(x, api.Cast).Kind = api.Ascribe },
		"a Cast of one type":        func(x *api.Tree) { term(x, api.Ascribe).Kind = api.Cast },
		"too many terms, and loose": func(x *api.Tree) { x.Nodes = make([]api.Node, api.MaxNodes+1) },
	} {
		x := planted(t)
		change(&x)
		refusedTypes(t, what, x)
	}
}

// P8.1: types and aliases that may not be, in each way of chapter 4, in trees with terms and in trees without.
func TestWrongTypes(t *testing.T) {
	name := func(kind int, s string) func(x *api.Tree) { return func(x *api.Tree) { typed(x, kind).Name = s } }
	names := func(kind int, s string) func(x *api.Tree) {
		return func(x *api.Tree) { typed(x, kind).Names = strings.Fields(s) }
	}
	open := func(kind int) func(x *api.Tree) { return func(x *api.Tree) { typed(x, kind).Open = true } }
	kid := func(kind, i int) func(x *api.Tree) { return func(x *api.Tree) { typed(x, kind).Kids[0] = i } }
	alias := func(i int) func(x *api.Tree) { return func(x *api.Tree) { x.Aliases[0].Type = i } }
	aliasName := func(s string) func(x *api.Tree) { return func(x *api.Tree) { x.Aliases[1].Name = s } }
	for what, change := range map[string]func(x *api.Tree){
		"a kid below 0":             kid(api.TFun, -1),
		"a kid that isn't there":    kid(api.TFun, 99),
		"a kid with a great number": kid(api.TRecord, most),
		"a kid far below":           kid(api.TRecord, least),
		"a kid that is itself":      func(x *api.Tree) { x.Types[len(x.Types)-1].Kids = []int{len(x.Types) - 1} },
		"a kid behind":              func(x *api.Tree) { typed(x, api.TVariant).Kids[0] = len(x.Types) - 1 },
		"a kid twice":               func(x *api.Tree) { typed(x, api.TFun).Kids[0] = typed(x, api.TFun).Kids[1] },
		"a kid of two":              func(x *api.Tree) { typed(x, api.TFun).Kids[0] = typed(x, api.TRecord).Kids[0] },
		"a kind below":              func(x *api.Tree) { typed(x, api.TInt).Kind = -1 },
		"a kind above":              func(x *api.Tree) { typed(x, api.TInt).Kind = api.TKinds },
		"a TInt with a name":        name(api.TInt, "A"),
		"a TInt that is Open":       open(api.TInt),
		"a TAny with Names":         names(api.TAny, "a"),
		"a TFun that is Open":       open(api.TFun),
		"a TFun with a name":        name(api.TFun, "A"),
		"a TFun of one":             func(x *api.Tree) { typed(x, api.TFun).Kids = typed(x, api.TFun).Kids[:1] },
		"a TRecord's name twice":    names(api.TRecord, "b b"),
		"a TRecord with few Names":  names(api.TRecord, "b"),
		"a TRecord with a word":     names(api.TRecord, "b of"),
		"a TRecord that is Open":    open(api.TRecord),
		"a TVariant's tag twice":    names(api.TVariant, "a a"),
		"a TVariant with many":      names(api.TVariant, "a b c"),
		"a TVariant with an alias":  names(api.TVariant, "a B"),
		"a TAlias with a name":      name(api.TAlias, "a"),
		"a TAlias with _":           name(api.TAlias, "A_"),
		"a TAlias without a name":   name(api.TAlias, ""),
		"a TAlias that is Open":     open(api.TAlias),
		"an alias's name":           aliasName("b"),
		"an alias without a name":   aliasName(""),
		"an alias of a type below":  alias(-1),
		"an alias of none":          alias(99),
		"an alias far behind":       alias(most),
		"an alias far below":        alias(least),
		"two aliases of one type":   func(x *api.Tree) { x.Aliases[0].Type = x.Aliases[1].Type },
		"an alias of a type's kid":  func(x *api.Tree) { x.Aliases[0].Type = typed(x, api.TRecord).Kids[1] },
		"an alias without a type":   func(x *api.Tree) { x.Aliases = append(x.Aliases, api.Alias{Name: "D", Type: len(x.Types)}) },
		"too many types": func(x *api.Tree) {
			x.Types = append(x.Types, make([]api.TypeNode, api.MaxNodes+1-len(x.Types))...)
		},
	} {
		x := planted(t)
		change(&x)
		refusedTypes(t, what, x)
		x.Nodes = nil
		refusedTypes(t, what+", without terms", x)
	}
	// What no term has may not be in a tree that has terms.
	for _, n := range []api.TypeNode{{Kind: api.TInt}, {Kind: api.TAlias, Name: "A"}, {Kind: api.TAlias, Name: "E"}} {
		x := planted(t)
		x.Types = append(x.Types, n)
		refusedTypes(t, "a type of none", x)
		x.Nodes = nil
		typesAsAnew(t, x)
	}
	x := planted(t)
	x.Aliases = x.Aliases[1:]
	refusedTypes(t, "an alias less", x)
	x.Nodes = nil
	typesAsAnew(t, x)
}

// P8.1: trees without terms: with types that nothing has, as many as may be; with none; with aliases alone.
func TestWithoutTerms(t *testing.T) {
	for _, n := range []int{1, 2, 3, 4, 5, 100, 101, api.MaxNodes - 1, api.MaxNodes} {
		x := api.Tree{Types: make([]api.TypeNode, n), Nodes: []api.Node{}}
		x.Types[n-1].Kind = api.TStr
		want := map[int]string{0: "i;", n / 2: "i;"}
		want[n-1] = "s;"
		for i, text := range want {
			if g, e := graph.Of(x, i); e != api.OK || written(t, g) != text {
				t.Errorf("%d of %d: %v, %d", i, n, g, e)
			}
		}
		for _, i := range outside(n) {
			if g, e := graph.Of(x, i); e != api.ErrNone || !equal(g, api.Graph{}) {
				t.Errorf("%d of %d: %v, %d", i, n, g, e)
			}
		}
		x.Nodes = []api.Node{{Kind: api.Int}}
		refusedTypes(t, "types that no term has", x)
	}
	refusedTypes(t, "too many", api.Tree{Types: make([]api.TypeNode, api.MaxNodes+1)})
	refusedTypes(t, "an alias without a type", api.Tree{Aliases: []api.Alias{{Name: "A"}}})
	for _, x := range []api.Tree{{}, {Nodes: []api.Node{{Kind: api.Int}}}, {Types: []api.TypeNode{}}} {
		for _, i := range outside(0) {
			if g, e := graph.Of(x, i); e != api.ErrNone || !equal(g, api.Graph{}) {
				t.Errorf("no types, %d: %v, %d", i, g, e)
			}
		}
	}
}

// P8.1: of several errors the first named one: a tree that may not be, no such type, a wrong alias.
func TestOrderOfErrors(t *testing.T) {
	x, i := under(t, "type L = L;", "L -> X")
	y := tree.Clone(x)
	y.Types[i].Open = true
	refusedTypes(t, "a loop", y)
	for _, n := range outside(len(x.Types)) {
		if g, e := graph.Of(x, n); e != api.ErrNone || !equal(g, api.Graph{}) {
			t.Errorf("%d: %v, %d", n, g, e)
		}
	}
	// Of a graph that may not be, and a head that isn't there.
	refused(t, "a kid that isn't there", made(0, "> 0 1"))
}

// P8.1: each term and type changed by one of a row of changes: a type is refused just as chapter 6 refuses it.
func TestWrongRow(t *testing.T) {
	terms := []func(n *api.Node){
		func(n *api.Node) { n.Kind++ },
		func(n *api.Node) { n.Name += "!" },
		func(n *api.Node) { n.Int ^= -1 },
		func(n *api.Node) { n.Bits ^= 0x7ff0000000000011 },
		func(n *api.Node) { n.Names = append(n.Names, "a") },
		func(n *api.Node) { n.Kids = append(n.Kids, 0) },
		func(n *api.Node) { n.Kids = n.Kids[:len(n.Kids)/2] },
		func(n *api.Node) { n.Types = append(n.Types, 0) },
		func(n *api.Node) { n.Types = n.Types[:len(n.Types)/2] },
	}
	types := []func(n *api.TypeNode){
		func(n *api.TypeNode) { n.Kind++ },
		func(n *api.TypeNode) { n.Kind-- },
		func(n *api.TypeNode) { n.Name += "a" },
		func(n *api.TypeNode) { n.Names = append(n.Names, "a") },
		func(n *api.TypeNode) { n.Kids = append(n.Kids, 0) },
		func(n *api.TypeNode) { n.Kids = n.Kids[:len(n.Kids)/2] },
		func(n *api.TypeNode) { n.Open = !n.Open },
	}
	whole := planted(t)
	many := 0
	look := func(x api.Tree) {
		if _, e := print.Type(x, 0); e == api.OK {
			typesAsAnew(t, x)
		} else {
			many++
			refusedTypes(t, "one of a row", x)
		}
	}
	for i := range whole.Nodes {
		for _, change := range terms {
			x := tree.Clone(whole)
			change(&x.Nodes[i])
			look(x)
		}
	}
	for i := range whole.Types {
		for _, change := range types {
			x := tree.Clone(whole)
			change(&x.Types[i])
			look(x)
			x.Nodes = nil
			look(x)
		}
	}
	if many < 300 {
		t.Error(many)
	}
}
