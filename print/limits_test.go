package print

import (
	"strconv"
	"strings"
	"testing"

	"azimuth/api"
	"azimuth/parse"
	"azimuth/tree"
)

// grower builds a tree from within.
type grower struct{ tree api.Tree }

func (g *grower) term(n api.Node, kids ...int) int {
	n.Kids = kids
	g.tree.Nodes = append(g.tree.Nodes, n)
	return len(g.tree.Nodes) - 1
}

func (g *grower) typed(n api.TypeNode, kids ...int) int {
	n.Kids = kids
	g.tree.Types = append(g.tree.Types, n)
	return len(g.tree.Types) - 1
}

func (g *grower) named(name string) int { return g.term(api.Node{Kind: api.Var, Name: name}) }

func (g *grower) basic(kind int) int { return g.typed(api.TypeNode{Kind: kind}) }

// way is how things stand within one another: what is ahead of each but the innermost, that one, and what is behind.
type way struct {
	before, last, after string
	parsed              int // as deep as this it is parsed; 0: as deep as may be
	around              func(g *grower, inner int) int
}

func termWays() []way {
	l := []way{
		{"fun y -> ", "fun y -> x", "", 255, func(g *grower, i int) int { return g.term(api.Node{Kind: api.Fun, Name: "y"}, i) }},
		{"", "x y", " y", 0, func(g *grower, i int) int { return g.term(api.Node{Kind: api.App}, i, g.named("y")) }},
		{"y (", "y x", ")", 256, func(g *grower, i int) int { return g.term(api.Node{Kind: api.App}, g.named("y"), i) }},
		{"let y = ", "let y = x in y", " in y", 255, func(g *grower, i int) int { return g.term(api.Node{Kind: api.Let, Name: "y"}, i, g.named("y")) }},
		{"let rec y = y in ", "let rec y = y in x", "", 255, func(g *grower, i int) int {
			return g.term(api.Node{Kind: api.LetRec, Name: "y"}, g.named("y"), i)
		}},
		{"if ", "if x then y else y", " then y else y", 255, func(g *grower, i int) int {
			return g.term(api.Node{Kind: api.If}, i, g.named("y"), g.named("y"))
		}},
		{"if y then ", "if y then x else y", " else y", 255, func(g *grower, i int) int {
			return g.term(api.Node{Kind: api.If}, g.named("y"), i, g.named("y"))
		}},
		{"if y then y else ", "if y then y else x", "", 255, func(g *grower, i int) int {
			return g.term(api.Node{Kind: api.If}, g.named("y"), g.named("y"), i)
		}},
		{"case ", "case x of end", " of end", 255, func(g *grower, i int) int { return g.term(api.Node{Kind: api.Case}, i) }},
		{"case y of | #a b -> ", "case y of | #a b -> x end", " end", 255, func(g *grower, i int) int {
			return g.term(api.Node{Kind: api.Case, Names: []string{"a", "b"}}, g.named("y"), i)
		}},
		{"case y of | else -> ", "case y of | else -> x end", " end", 255, func(g *grower, i int) int {
			return g.term(api.Node{Kind: api.Case}, g.named("y"), i)
		}},
		{"#a (", "#a x", ")", 256, func(g *grower, i int) int { return g.term(api.Node{Kind: api.Tag, Name: "a"}, i) }},
		{"{a = ", "{a = x}", "}", 255, func(g *grower, i int) int { return g.term(api.Node{Kind: api.Record, Names: []string{"a"}}, i) }},
		{"", "x.l", ".l", 0, func(g *grower, i int) int { return g.term(api.Node{Kind: api.Select, Name: "l"}, i) }},
		{"(", "(x : int)", " : int)", 255, func(g *grower, i int) int {
			return g.term(api.Node{Kind: api.Ascribe, Types: []int{g.basic(api.TInt)}}, i)
		}},
		{"(", "(x : int => dyn)", " : int => dyn)", 255, func(g *grower, i int) int {
			return g.term(api.Node{Kind: api.Cast, Types: []int{g.basic(api.TInt), g.basic(api.TDyn)}}, i)
		}},
		{"(", "x < y", ") < y", 256, func(g *grower, i int) int { return g.term(api.Node{Kind: api.Op, Name: "<"}, i, g.named("y")) }},
	}
	for _, sign := range strings.Fields("^ + -. * /.") {
		l = append(l, way{"", "x " + sign + " y", " " + sign + " y", 0, func(g *grower, i int) int {
			return g.term(api.Node{Kind: api.Op, Name: sign}, i, g.named("y"))
		}})
	}
	for _, sign := range strings.Fields("== ^ - +. / *.") {
		l = append(l, way{"y " + sign + " (", "y " + sign + " x", ")", 256, func(g *grower, i int) int {
			return g.term(api.Node{Kind: api.Op, Name: sign}, g.named("y"), i)
		}})
	}
	return l
}

func typeWays() []way {
	return []way{
		{"int -> ", "int -> T", "", 255, func(g *grower, i int) int { return g.typed(api.TypeNode{Kind: api.TFun}, g.basic(api.TInt), i) }},
		{"(", "T -> int", ") -> int", 255, func(g *grower, i int) int { return g.typed(api.TypeNode{Kind: api.TFun}, i, g.basic(api.TInt)) }},
		{"{a: ", "{a: T}", "}", 255, func(g *grower, i int) int { return g.typed(api.TypeNode{Kind: api.TRecord, Names: []string{"a"}}, i) }},
		{"[#a ", "[#a T]", "]", 0, func(g *grower, i int) int { return g.typed(api.TypeNode{Kind: api.TVariant, Names: []string{"a"}}, i) }},
		{"[#a ", "[#a T | ..]", " | ..]", 0, func(g *grower, i int) int {
			return g.typed(api.TypeNode{Kind: api.TVariant, Names: []string{"a"}, Open: true}, i)
		}},
	}
}

// text: what a tree so deep is printed as.
func (w way) text(deep int) string {
	return strings.Repeat(w.before, deep-1) + w.last + strings.Repeat(w.after, deep-1)
}

// terms: a tree so deep, of terms.
func (w way) terms(deep int) api.Tree {
	var g grower
	i := g.named("x")
	for range deep {
		i = w.around(&g, i)
	}
	return g.tree
}

// types: so deep a tree, of types alone.
func (w way) types(deep int) api.Tree {
	var g grower
	i := g.typed(api.TypeNode{Kind: api.TAlias, Name: "T"})
	for range deep {
		i = w.around(&g, i)
	}
	return g.tree
}

// most: how deep such a tree may be.
func most(t api.Tree) int {
	return (api.MaxNodes - 1) / max(len(t.Nodes)-1, len(t.Types)-1, len(t.Types))
}

// mostTypes: the same of a tree of types, of which one is within all others.
func mostTypes(t api.Tree) int { return (api.MaxNodes - 1) / (len(t.Types) - 1) }

// P6.1, P6.2: trees as deep as may be; what is printed is parsed, up to the depth that the grammar can have.
func TestDeep(t *testing.T) {
	for _, w := range termWays() {
		for _, deep := range []int{1, 2, 254, 255, 256, 257, 1000, most(w.terms(1))} {
			x := w.terms(deep)
			b, e := Text(x)
			if e != api.OK || string(b) != w.text(deep) {
				t.Fatalf("%d deep: %s, %d; it is %s", deep, short(b), e, short(w.text(deep)))
			}
			if c, e := Term(x, len(x.Nodes)-1); e != api.OK || string(c) != string(b) {
				t.Errorf("%d deep: Term: %s, %d", deep, short(c), e)
			}
			y, d := parse.Text(b)
			if w.parsed == 0 || deep <= w.parsed {
				if d.Error != api.OK || !tree.Same(x, y) {
					t.Errorf("%d deep, %s: %v", deep, short(b), d)
				}
			} else if d.Error != api.ErrDepth {
				t.Errorf("%d deep, %s: %v", deep, short(b), d)
			}
		}
	}
}

// P6.1, P6.2: the same of types.
func TestDeepTypes(t *testing.T) {
	for _, w := range typeWays() {
		for _, deep := range []int{1, 2, 254, 255, 256, 257, 1000, mostTypes(w.types(1))} {
			x := w.types(deep)
			b, e := Type(x, len(x.Types)-1)
			if e != api.OK || string(b) != w.text(deep) {
				t.Fatalf("%d deep: %s, %d; it is %s", deep, short(b), e, short(w.text(deep)))
			}
			x.Nodes = []api.Node{{Kind: api.Int}, {Kind: api.Ascribe, Kids: []int{0}, Types: []int{len(x.Types) - 1}}}
			if c, e := Text(x); e != api.OK || string(c) != "(0 : "+w.text(deep)+")" {
				t.Errorf("%d deep: Text: %s, %d", deep, short(c), e)
			}
			y, d := parse.Type(b)
			if w.parsed == 0 || deep <= w.parsed {
				y.Nodes = []api.Node{{Kind: api.Int}, {Kind: api.Ascribe, Kids: []int{0}, Types: []int{len(y.Types) - 1}}}
				if d.Error != api.OK || !tree.Same(x, y) {
					t.Errorf("%d deep, %s: %v", deep, short(b), d)
				}
			} else if d.Error != api.ErrDepth {
				t.Errorf("%d deep, %s: %v", deep, short(b), d)
			}
		}
	}
}

// P6.1: one term more than may be, or one type.
func TestTooMany(t *testing.T) {
	for _, w := range termWays() {
		x := w.terms(most(w.terms(1)) + 1)
		for len(x.Nodes) <= api.MaxNodes && len(x.Types) <= api.MaxNodes {
			i := len(x.Nodes) - 1
			x.Nodes = append(x.Nodes, api.Node{Kind: api.Fun, Name: "y", Kids: []int{i}})
		}
		refused(t, w.last, x)
	}
	for _, w := range typeWays() {
		x := w.types(mostTypes(w.types(1)) + 1)
		for len(x.Types) <= api.MaxNodes {
			i := len(x.Types) - 1
			x.Types = append(x.Types, api.TypeNode{Kind: api.TRecord, Names: []string{"a"}, Kids: []int{i}})
		}
		refused(t, w.last, x)
	}
}

// wide is something with as many parts as may be.
func wide(n int, part func(i int) string, between string) string {
	var l []string
	for i := range n {
		l = append(l, part(i))
	}
	return strings.Join(l, between)
}

// P6.1, P6.2: trees as wide as may be.
func TestWide(t *testing.T) {
	const n = api.MaxNodes - 1
	at := strconv.Itoa
	var names, arms []string
	var kids, types []term
	var typeKids []typed
	var aliases []named
	for i := range n {
		names = append(names, "n"+at(i))
		kids = append(kids, number(int64(i)))
		typeKids = append(typeKids, basic(api.TInt))
		aliases = append(aliases, named{"A", basic(api.TStr)})
		if i < 20000 {
			arms = append(arms, "n"+at(i), "x")
			types = append(types, held(number(1), basic(api.TInt)))
		}
	}
	prints(t, laid(manned(api.Record, names, kids...)), "{"+wide(n, func(i int) string { return "n" + at(i) + " = " + at(i) }, ", ")+"}")
	prints(t, laid(manned(api.Case, arms, kids[:20002]...)), "case 0 of "+wide(20000, func(i int) string { return "| #n" + at(i) + " x -> " + at(i+1) + " " }, "")+"| else -> 20001 end")
	prints(t, laid(manned(api.Case, arms, kids[:20001]...)), "case 0 of "+wide(20000, func(i int) string { return "| #n" + at(i) + " x -> " + at(i+1) + " " }, "")+"end")
	prints(t, laid(manned(api.Record, names[:20000], types...)), "{"+wide(20000, func(i int) string { return "n" + at(i) + " = (1 : int)" }, ", ")+"}")
	printsType(t, fields(names, typeKids...), "{"+wide(n, func(i int) string { return "n" + at(i) + ": int" }, ", ")+"}")
	printsType(t, variant(true, names, typeKids...), "["+wide(n, func(i int) string { return "#n" + at(i) + " int" }, " | ")+" | ..]")
	prints(t, laid(kids[7], aliases...), strings.Repeat("type A = str;\n", n)+"7")
	prints(t, laid(kids[7], append(aliases, named{"B1", fields(nil)})...), strings.Repeat("type A = str;\n", n)+"type B1 = {};\n7")
	refused(t, "many aliases", laid(kids[7], append(aliases, named{"B1", fields([]string{"a"}, typeKids[0])})...))
}

// P6.2: a text as long as may be is parsed; a longer one is printed, too.
func TestLong(t *testing.T) {
	for _, n := range []int{api.MaxText - 2, api.MaxText - 1, 3 * api.MaxText} {
		long := strings.Repeat("n", n)
		x := laid(of(api.Str, long))
		b, e := Text(x)
		if e != api.OK || string(b) != `"`+long+`"` {
			t.Fatal(len(b), e)
		}
		y, d := parse.Text(b)
		if len(b) == api.MaxText {
			if d.Error != api.OK || !tree.Same(x, y) {
				t.Error(d)
			}
		} else if d.Error != api.ErrLong {
			t.Error(len(b), d)
		}
	}
}
