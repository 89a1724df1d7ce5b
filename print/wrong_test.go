package print

import (
	"math"
	"math/rand"
	"strings"
	"testing"

	"azimuth/api"
	"azimuth/parse"
	"azimuth/tree"
)

// refused looks whether a tree may not be, of whatever it is asked.
func refused(t *testing.T, what string, x api.Tree) {
	t.Helper()
	if b, e := Text(x); e != api.ErrForm || b != nil {
		t.Errorf("%s: Text: %s, %d", what, short(b), e)
	}
	for _, i := range numbers(len(x.Nodes)) {
		if b, e := Term(x, i); e != api.ErrForm || b != nil {
			t.Errorf("%s: Term %d: %s, %d", what, i, short(b), e)
		}
	}
	refusedTypes(t, what, x)
}

func refusedTypes(t *testing.T, what string, x api.Tree) {
	t.Helper()
	for _, i := range numbers(len(x.Types)) {
		if b, e := Type(x, i); e != api.ErrForm || b != nil {
			t.Errorf("%s: Type %d: %s, %d", what, i, short(b), e)
		}
	}
}

// numbers: some that are there, and some that aren't.
func numbers(n int) []int {
	return []int{0, 1, n / 2, n - 1, n, n + 1, -1, math.MaxInt, math.MinInt}
}

// bushText has each kind of term and of type.
const bushText = "type A = int;\ntype B = [#a A | #type float | ..];\n" +
	`(let rec f = fun x -> x in case {b = 1, a = true} of | #in p -> let y = "s\n" in y | #q p -> f p | else -> if (p : dyn) then (#q f'3ff0000000000000).l else p end : {a: bool, b: any} => str -> none)`

func bush(t *testing.T) api.Tree {
	t.Helper()
	x := read(t, bushText)
	prints(t, x, bushText)
	return x
}

// first: the first term of a kind.
func first(x api.Tree, kind int) *api.Node {
	for i := range x.Nodes {
		if x.Nodes[i].Kind == kind {
			return &x.Nodes[i]
		}
	}
	return nil
}

func firstType(x api.Tree, kind int) *api.TypeNode {
	for i := range x.Types {
		if x.Types[i].Kind == kind {
			return &x.Types[i]
		}
	}
	return nil
}

// P6.1: a tree that may not be, in each way of chapter 4.
func TestWrongTerms(t *testing.T) {
	for what, change := range map[string]func(x *api.Tree){
		"a kid below 0":             func(x *api.Tree) { first(*x, api.Fun).Kids[0] = -1 },
		"a kid that isn't there":    func(x *api.Tree) { first(*x, api.Fun).Kids[0] = len(x.Nodes) },
		"a kid that is itself":      func(x *api.Tree) { x.Nodes[len(x.Nodes)-1].Kids[0] = len(x.Nodes) - 1 },
		"a kid with a great number": func(x *api.Tree) { first(*x, api.Fun).Kids[0] = math.MaxInt },
		"a kid behind":              func(x *api.Tree) { x.Nodes = append(x.Nodes[1:], x.Nodes[0]) },
		"a kid twice":               func(x *api.Tree) { first(*x, api.If).Kids[1] = first(*x, api.If).Kids[2] },
		"a kid of two":              func(x *api.Tree) { first(*x, api.App).Kids[0] = first(*x, api.Fun).Kids[0] },
		"a kid of none":             func(x *api.Tree) { x.Nodes = append(x.Nodes, api.Node{Kind: api.Int}) },
		"a type below 0":            func(x *api.Tree) { first(*x, api.Ascribe).Types[0] = -1 },
		"a type that isn't there":   func(x *api.Tree) { first(*x, api.Cast).Types[1] = len(x.Types) },
		"a type of two":             func(x *api.Tree) { first(*x, api.Cast).Types[1] = first(*x, api.Cast).Types[0] },
		"a type of a kid's":         func(x *api.Tree) { first(*x, api.Ascribe).Types[0] = firstType(*x, api.TFun).Kids[0] },
		"a type of none":            func(x *api.Tree) { x.Types = append(x.Types, api.TypeNode{Kind: api.TInt}) },
		"a kind below":              func(x *api.Tree) { first(*x, api.Var).Kind = -1 },
		"a kind above":              func(x *api.Tree) { first(*x, api.Var).Kind = api.Kinds },
		"a Var's name":              func(x *api.Tree) { first(*x, api.Var).Name = "let" },
		"a Var without":             func(x *api.Tree) { first(*x, api.Var).Name = "" },
		"an Int below 0":            func(x *api.Tree) { first(*x, api.Int).Int = -1 },
		"an Int's name":             func(x *api.Tree) { first(*x, api.Int).Name = "x" },
		"a Bool of 2":               func(x *api.Tree) { first(*x, api.Bool).Int = 2 },
		"a Str that is no text":     func(x *api.Tree) { first(*x, api.Str).Name = "\xff" },
		"a Str with a tab":          func(x *api.Tree) { first(*x, api.Str).Name = "\t" },
		"a Str with a return":       func(x *api.Tree) { first(*x, api.Str).Name = "a\r\n" },
		"a Float's bits":            func(x *api.Tree) { first(*x, api.Float).Bits = 0x7ff0000000000001 },
		"a Fun's name":              func(x *api.Tree) { first(*x, api.Fun).Name = "X" },
		"a Fun without a kid":       func(x *api.Tree) { *x = api.Tree{Nodes: []api.Node{{Kind: api.Fun, Name: "x"}}} },
		"a Fun with Bits":           func(x *api.Tree) { first(*x, api.Fun).Bits = 1 },
		"an App with a name":        func(x *api.Tree) { first(*x, api.App).Name = "x" },
		"a Let's name":              func(x *api.Tree) { first(*x, api.Let).Name = "0" },
		"a LetRec's name":           func(x *api.Tree) { first(*x, api.LetRec).Name = "rec" },
		"an If with Int":            func(x *api.Tree) { first(*x, api.If).Int = 1 },
		"a Case's odd Names":        func(x *api.Tree) { first(*x, api.Case).Names = []string{"in", "p", "q"} },
		"a Case's few Names":        func(x *api.Tree) { first(*x, api.Case).Names = []string{"in", "p"} },
		"a Case's many Names":       func(x *api.Tree) { first(*x, api.Case).Names = strings.Fields("in p q p r p s p") },
		"a Case's tag twice":        func(x *api.Tree) { first(*x, api.Case).Names = strings.Fields("in p in q") },
		"a Case's name":             func(x *api.Tree) { first(*x, api.Case).Names = strings.Fields("in in q p") },
		"a Tag's name":              func(x *api.Tree) { first(*x, api.Tag).Name = "#q" },
		"a Record's name twice":     func(x *api.Tree) { first(*x, api.Record).Names = strings.Fields("a a") },
		"a Record's few Names":      func(x *api.Tree) { first(*x, api.Record).Names = strings.Fields("a") },
		"a Record's many Names":     func(x *api.Tree) { first(*x, api.Record).Names = strings.Fields("a b c") },
		"a Record's word":           func(x *api.Tree) { first(*x, api.Record).Names = strings.Fields("a end") },
		"a Select's name":           func(x *api.Tree) { first(*x, api.Select).Name = "if" },
		"an Op's sign":              func(x *api.Tree) { first(*x, api.App).Kind, first(*x, api.App).Name = api.Op, ">" },
		"an Op without a sign":      func(x *api.Tree) { first(*x, api.App).Kind = api.Op },
		"an Ascribe with two types": func(x *api.Tree) { first(*x, api.Cast).Kind = api.Ascribe },
		"a Cast with one type":      func(x *api.Tree) { first(*x, api.Ascribe).Kind = api.Cast },
	} {
		x := bush(t)
		change(&x)
		refused(t, what, x)
	}
	refused(t, "without terms, but for Type", func() api.Tree {
		x := bush(t)
		x.Nodes, x.Types[0].Kind = nil, api.TKinds
		return x
	}())
}

// P6.1: types, and aliases, that may not be, in each way of chapter 4, in a tree with terms and in one without.
func TestWrongTypes(t *testing.T) {
	for what, change := range map[string]func(x *api.Tree){
		"a kid below 0":             func(x *api.Tree) { firstType(*x, api.TFun).Kids[0] = -1 },
		"a kid that isn't there":    func(x *api.Tree) { firstType(*x, api.TFun).Kids[0] = len(x.Types) },
		"a kid that is itself":      func(x *api.Tree) { x.Types[len(x.Types)-1].Kids = []int{len(x.Types) - 1, 0} },
		"a kid with a great number": func(x *api.Tree) { firstType(*x, api.TFun).Kids[1] = math.MaxInt },
		"a kid behind":              func(x *api.Tree) { firstType(*x, api.TVariant).Kids[0] = len(x.Types) - 1 },
		"a kid twice":               func(x *api.Tree) { firstType(*x, api.TFun).Kids[0] = firstType(*x, api.TFun).Kids[1] },
		"a kid of two":              func(x *api.Tree) { firstType(*x, api.TFun).Kids[0] = firstType(*x, api.TRecord).Kids[0] },
		"a kind below":              func(x *api.Tree) { firstType(*x, api.TInt).Kind = -1 },
		"a kind above":              func(x *api.Tree) { firstType(*x, api.TInt).Kind = api.TKinds },
		"a TInt's name":             func(x *api.Tree) { firstType(*x, api.TInt).Name = "int" },
		"a TNone with Open":         func(x *api.Tree) { firstType(*x, api.TNone).Open = true },
		"a TAny with Names":         func(x *api.Tree) { firstType(*x, api.TAny).Names = []string{"a"} },
		"a TFun with Open":          func(x *api.Tree) { firstType(*x, api.TFun).Open = true },
		"a TFun's name":             func(x *api.Tree) { firstType(*x, api.TFun).Name = "x" },
		"a TFun with one":           func(x *api.Tree) { firstType(*x, api.TFun).Kids = firstType(*x, api.TFun).Kids[:1] },
		"a TRecord's name twice":    func(x *api.Tree) { firstType(*x, api.TRecord).Names = strings.Fields("b b") },
		"a TRecord's few Names":     func(x *api.Tree) { firstType(*x, api.TRecord).Names = strings.Fields("b") },
		"a TRecord's word":          func(x *api.Tree) { firstType(*x, api.TRecord).Names = strings.Fields("b of") },
		"a TRecord with Open":       func(x *api.Tree) { firstType(*x, api.TRecord).Open = true },
		"a TVariant's tag twice":    func(x *api.Tree) { firstType(*x, api.TVariant).Names = strings.Fields("a a") },
		"a TVariant's many Names":   func(x *api.Tree) { firstType(*x, api.TVariant).Names = strings.Fields("a b c") },
		"a TVariant's alias":        func(x *api.Tree) { firstType(*x, api.TVariant).Names = strings.Fields("a B") },
		"a TAlias's name":           func(x *api.Tree) { firstType(*x, api.TAlias).Name = "a" },
		"a TAlias with _":           func(x *api.Tree) { firstType(*x, api.TAlias).Name = "A_" },
		"a TAlias without":          func(x *api.Tree) { firstType(*x, api.TAlias).Name = "" },
		"an alias's name":           func(x *api.Tree) { x.Aliases[1].Name = "b" },
		"an alias without a name":   func(x *api.Tree) { x.Aliases[0].Name = "" },
		"an alias of none":          func(x *api.Tree) { x.Aliases[0].Type = -1 },
		"an alias of none behind":   func(x *api.Tree) { x.Aliases[0].Type = len(x.Types) },
		"two aliases of one":        func(x *api.Tree) { x.Aliases[0].Type = x.Aliases[1].Type },
		"an alias of a kid":         func(x *api.Tree) { x.Aliases[0].Type = firstType(*x, api.TRecord).Kids[1] },
	} {
		x := bush(t)
		change(&x)
		refused(t, what, x)
		x.Nodes = nil
		refused(t, what+", without terms", x)
	}
}

// P6.1: a tree without terms, of which Text and Term tell nothing, and Type its types.
func TestWithoutTerms(t *testing.T) {
	x := bush(t)
	full := x
	full.Nodes = nil
	for _, nodes := range [][]api.Node{nil, {}} {
		full.Nodes = nodes
		if b, e := Text(full); e != api.ErrForm || b != nil {
			t.Error(b, e)
		}
		for _, i := range numbers(len(x.Nodes)) {
			if b, e := Term(full, i); e != api.ErrForm || b != nil {
				t.Error(b, e)
			}
		}
		for i := range x.Types {
			want, e := Type(x, i)
			b, f := Type(full, i)
			if e != api.OK || f != api.OK || string(b) != string(want) {
				t.Errorf("%d: %q, %d, %d; it is %q", i, b, e, f, want)
			}
		}
		for _, i := range []int{-1, len(x.Types), len(x.Types) + 1, math.MaxInt, math.MinInt} {
			if b, e := Type(full, i); e != api.ErrNone || b != nil {
				t.Error(b, e)
			}
		}
	}
	// Without aliases, what they had is had by nothing, which doesn't matter here.
	full.Aliases = nil
	if b, e := Type(full, 0); e != api.OK || string(b) != "int" {
		t.Error(b, e)
	}
	for _, i := range numbers(0) {
		if b, e := Type(api.Tree{}, i); e != api.ErrNone || b != nil {
			t.Errorf("no types, %d: %q, %d", i, b, e)
		}
	}
	y, d := parse.Type([]byte("((A))->{}"))
	if b, e := Type(y, len(y.Types)-1); d.Error != api.OK || e != api.OK || string(b) != "A -> {}" {
		t.Error(b, d, e)
	}
}

// P6.1: types that nothing has, as many as there may be, and one more.
func TestLooseTypes(t *testing.T) {
	for _, n := range []int{1, 2, 3, 4, 5, 100, 101, api.MaxNodes - 1, api.MaxNodes} {
		x := api.Tree{Types: make([]api.TypeNode, n)}
		x.Types[n-1].Kind = api.TStr
		for i, want := range map[int]string{0: "int", n / 2: "int", n - 1: "str"} {
			if b, e := Type(x, i); (e != api.OK || string(b) != want) && !(n == 1 && i == 0 && string(b) == "str") {
				t.Errorf("%d of %d: %q, %d", i, n, b, e)
			}
		}
		for _, i := range []int{-1, n} {
			if b, e := Type(x, i); e != api.ErrNone || b != nil {
				t.Errorf("%d of %d: %q, %d", i, n, b, e)
			}
		}
		x.Nodes = []api.Node{{Kind: api.Int}}
		refused(t, "types that no term has", x)
	}
	refused(t, "too many", api.Tree{Types: make([]api.TypeNode, api.MaxNodes+1)})
}

// P6.1: numbers of terms and types that aren't there.
func TestNone(t *testing.T) {
	for _, x := range []api.Tree{bush(t), read(t, "x"), read(t, "type A = int; (x : A)")} {
		for _, n := range []int{-1, math.MinInt, math.MaxInt} {
			if b, e := Term(x, n); e != api.ErrNone || b != nil {
				t.Error(n, b, e)
			}
			if b, e := Type(x, n); e != api.ErrNone || b != nil {
				t.Error(n, b, e)
			}
		}
		if b, e := Term(x, len(x.Nodes)); e != api.ErrNone || b != nil {
			t.Error(b, e)
		}
		if b, e := Type(x, len(x.Types)); e != api.ErrNone || b != nil {
			t.Error(b, e)
		}
		if b, e := Term(x, len(x.Nodes)-1); e != api.OK || len(b) == 0 {
			t.Error(b, e)
		}
		if b, e := Term(x, 0); e != api.OK || len(b) == 0 {
			t.Error(b, e)
		}
	}
	refused(t, "nothing", api.Tree{Aliases: []api.Alias{{Name: "A"}}})
	if b, e := Text(api.Tree{}); e != api.ErrForm || b != nil {
		t.Error(b, e)
	}
	if b, e := Term(api.Tree{}, 0); e != api.ErrForm || b != nil {
		t.Error(b, e)
	}
}

// P6.1: trees that are changed by chance are printed just if they may be.
func TestWrongChance(t *testing.T) {
	for i := range 3000 {
		chance := rand.New(rand.NewSource(int64(i)))
		m := maker{chance: chance, fuel: 12}
		x := laidAnyhow(chance, m.term(), m.aliases()...)
		for range 1 + chance.Intn(2) {
			changeAnyhow(chance, &x)
		}
		e := tree.Check(x)
		if _, f := Text(x); e != f {
			t.Errorf("%v: %d, Check %d", x, f, e)
		}
		if _, f := Term(x, 0); e != f {
			t.Errorf("%v: %d, Check %d", x, f, e)
		}
		if _, f := Type(x, len(x.Types)-1); e != f && len(x.Types) > 0 {
			t.Errorf("%v: %d, Check %d", x, f, e)
		}
	}
}

func changeAnyhow(chance *rand.Rand, x *api.Tree) {
	number := func() int { return chance.Intn(len(x.Nodes)+len(x.Types)+2) - 1 }
	n := &x.Nodes[chance.Intn(len(x.Nodes))]
	switch chance.Intn(8) {
	case 0:
		n.Kind = chance.Intn(api.Kinds+2) - 1
	case 1:
		n.Kids = append(n.Kids, number())
	case 2:
		if len(n.Kids) > 0 {
			n.Kids[chance.Intn(len(n.Kids))] = number()
		}
	case 3:
		n.Names = append(n.Names, "x")
	case 4:
		n.Name = "y"
	case 5:
		n.Types = append(n.Types, number())
	}
	if len(x.Types) == 0 {
		return
	}
	m := &x.Types[chance.Intn(len(x.Types))]
	switch chance.Intn(8) {
	case 0:
		m.Kind = chance.Intn(api.TKinds+2) - 1
	case 1:
		m.Kids = append(m.Kids, number())
	case 2:
		if len(m.Kids) > 0 {
			m.Kids[chance.Intn(len(m.Kids))] = number()
		}
	case 3:
		m.Names = append(m.Names, "x")
	case 4:
		m.Open = !m.Open
	case 5:
		m.Name = "A"
	}
}
