package scope_test

import (
	"slices"
	"strconv"
	"strings"
	"testing"

	"azimuth/api"
	"azimuth/scope"
)

// stem is a way in which a term stands in another one.
type stem struct {
	what  string
	node  api.Node
	ahead int  // other kids, ahead of the one
	kids  int  // all
	types int  // how many
	binds bool // the node's name, in the one
}

// named is a term of a kind with its name, or names.
func named(kind int, name string) api.Node {
	if kind == api.Case {
		return api.Node{Kind: kind, Names: []string{"a", name}}
	}
	return api.Node{Kind: kind, Name: name}
}

func stems() []stem {
	return []stem{
		{"Fun", named(api.Fun, "y"), 0, 1, 0, true},
		{"App, 0", api.Node{Kind: api.App}, 0, 2, 0, false},
		{"App, 1", api.Node{Kind: api.App}, 1, 2, 0, false},
		{"Let, 0", named(api.Let, "y"), 0, 2, 0, false},
		{"Let, 1", named(api.Let, "y"), 1, 2, 0, true},
		{"LetRec, 0", named(api.LetRec, "y"), 0, 2, 0, true},
		{"LetRec, 1", named(api.LetRec, "y"), 1, 2, 0, true},
		{"If, 0", api.Node{Kind: api.If}, 0, 3, 0, false},
		{"If, 1", api.Node{Kind: api.If}, 1, 3, 0, false},
		{"If, 2", api.Node{Kind: api.If}, 2, 3, 0, false},
		{"Case, 0", named(api.Case, "y"), 0, 2, 0, false},
		{"Case, its tag", named(api.Case, "y"), 1, 2, 0, true},
		{"Case, its tag, and else", named(api.Case, "y"), 1, 3, 0, true},
		{"Case, else", named(api.Case, "y"), 2, 3, 0, false},
		{"Tag", api.Node{Kind: api.Tag, Name: "y"}, 0, 1, 0, false},
		{"Record", api.Node{Kind: api.Record, Names: []string{"y"}}, 0, 1, 0, false},
		{"Select", api.Node{Kind: api.Select, Name: "y"}, 0, 1, 0, false},
		{"Op, 0", api.Node{Kind: api.Op, Name: "+"}, 0, 2, 0, false},
		{"Op, 1", api.Node{Kind: api.Op, Name: "^"}, 1, 2, 0, false},
		{"Ascribe", api.Node{Kind: api.Ascribe}, 0, 1, 1, false},
		{"Cast", api.Node{Kind: api.Cast}, 0, 1, 2, false},
	}
}

// renamed: the stem's term with another name.
func (s stem) renamed(name string) api.Node {
	if s.node.Name != "" && s.node.Kind != api.Op {
		s.node.Name = name
	}
	if len(s.node.Names) == 2 {
		s.node.Names = []string{"a", name}
	}
	return s.node
}

// around puts a term around the last one of a tree.
func (s stem) around(x *api.Tree, n api.Node) {
	inner := len(x.Nodes) - 1
	n.Kids = nil
	for k := range s.kids {
		i := inner
		if k != s.ahead {
			i = len(x.Nodes)
			x.Nodes = append(x.Nodes, api.Node{Kind: api.Int})
		}
		n.Kids = append(n.Kids, i)
	}
	for range s.types {
		n.Types = append(n.Types, len(x.Types))
		x.Types = append(x.Types, api.TypeNode{Kind: api.TInt})
	}
	x.Nodes = append(x.Nodes, n)
}

// most: how often a stem's term can stand in itself.
func (s stem) most() int { return (api.MaxNodes - 1) / max(s.kids, s.types+1) }

// P7.1: trees as deep as may be: a Var within all, bound by the outermost, by the innermost, by one between, and by none.
func TestDeep(t *testing.T) {
	for _, s := range stems() {
		for _, deep := range []int{1, 2, 3, 300, s.most()} {
			for _, at := range []int{-1, deep - 1, deep / 2, 0} {
				if deep > 300 && at < deep-1 && at >= 0 {
					continue // which take long, and tell nothing more
				}
				x := api.Tree{Nodes: []api.Node{{Kind: api.Var, Name: "x"}}}
				binder, binds := 0, false
				for level := range deep {
					if level != at {
						s.around(&x, s.renamed("y"))
						continue
					}
					s.around(&x, s.renamed("x"))
					if s.binds {
						binder, binds = len(x.Nodes)-1, true
					}
				}
				s.looks(t, deep, x, binder, binds)
			}
		}
	}
}

func (s stem) looks(t *testing.T, deep int, x api.Tree, binder int, binds bool) {
	t.Helper()
	if k, ok := scope.Binder(x, 0); k != binder || ok != binds {
		t.Errorf("%s, %d deep: Binder: %d, %v; it is %d, %v", s.what, deep, k, ok, binder, binds)
	}
	var free []string
	if !binds {
		free = []string{"x"}
	}
	if l := scope.Free(x); !slices.Equal(l, free) {
		t.Errorf("%s, %d deep: Free: %q; it is %q", s.what, deep, l, free)
	}
	d := scope.Check(x)
	if s.node.Kind == api.LetRec && d.Error != api.ErrArg || s.node.Kind != api.LetRec && d != (api.Diag{}) {
		t.Errorf("%s, %d deep: Check: %v", s.what, deep, d)
	}
	if k, e := scope.Through(x, len(x.Types)-1); len(x.Types) > 0 && (k != len(x.Types)-1 || e != api.OK) {
		t.Errorf("%s, %d deep: Through: %d, %d", s.what, deep, k, e)
	}
}

// P7.1: LetRecs of LetRecs, as deep as may be; the innermost is one of a Fun.
func TestDeepLetRecs(t *testing.T) {
	x := api.Tree{Nodes: []api.Node{{Kind: api.Var, Name: "f"}, {Kind: api.Fun, Name: "x", Kids: []int{0}, Pos: -9}}}
	for len(x.Nodes)+2 <= api.MaxNodes {
		i := len(x.Nodes)
		x.Nodes = append(x.Nodes, api.Node{Kind: api.Var, Name: "f", Pos: -9})
		x.Nodes = append(x.Nodes, api.Node{Kind: api.LetRec, Name: "f", Kids: []int{i - 1, i}, Pos: i})
	}
	// The innermost LetRec that stands where a Fun is asked is that with the number 3.
	if d := scope.Check(x); d != (api.Diag{Error: api.ErrArg, Pos: 2, Name: "f"}) {
		t.Error(d)
	}
	if l := scope.Free(x); len(l) != 0 {
		t.Error(l)
	}
	if k, ok := scope.Binder(x, 0); k != 3 || !ok {
		t.Error(k, ok)
	}
}

// P7.1: as many terms as may be, and one more.
func TestTooMany(t *testing.T) {
	x := api.Tree{Nodes: []api.Node{{Kind: api.Var, Name: "x"}}}
	for len(x.Nodes) < api.MaxNodes {
		x.Nodes = append(x.Nodes, api.Node{Kind: api.Fun, Name: "y", Kids: []int{len(x.Nodes) - 1}})
	}
	if d, l := scope.Check(x), scope.Free(x); d != (api.Diag{}) || len(l) != 1 {
		t.Error(d, l)
	}
	x.Nodes = append(x.Nodes, api.Node{Kind: api.Fun, Name: "x", Kids: []int{len(x.Nodes) - 1}})
	refused(t, "a term more", x)
	y := aliases(api.MaxNodes, func(i int) string { return "A" }, func(i int) string { return "" })
	if d := scope.Check(y); d.Error != api.ErrTwice {
		t.Error(d)
	}
	refused(t, "an alias more", aliases(api.MaxNodes+1, func(i int) string { return "A" }, func(i int) string { return "" }))
}

// nth is a name of its own for each number; names rise with the numbers.
func nth(i int) string { return "n" + strconv.Itoa(100000+i) }

// P7.1: a Record of as many Vars as may be: all free, some, and none.
func TestWide(t *testing.T) {
	const n = api.MaxNodes - 2
	record := api.Node{Kind: api.Record}
	var x api.Tree
	var names []string
	for i := range n {
		names = append(names, nth(i))
		record.Names = append(record.Names, nth(i))
		record.Kids = append(record.Kids, i)
		x.Nodes = append(x.Nodes, api.Node{Kind: api.Var, Name: nth(n - 1 - i)})
	}
	x.Nodes = append(x.Nodes, record, api.Node{Kind: api.Fun, Name: nth(7), Kids: []int{n}})
	if l := scope.Free(x); !slices.Equal(l, slices.Delete(slices.Clone(names), 7, 8)) {
		t.Error(len(l))
	}
	for i := range 20 {
		k, ok := scope.Binder(x, n-1-i)
		if ok != (i == 7) || ok && k != n+1 {
			t.Error(i, k, ok)
		}
	}
	for i := range n {
		x.Nodes[i].Name = nth(7)
	}
	if l := scope.Free(x); len(l) != 0 {
		t.Error(len(l))
	}
	x.Nodes[n+1].Name = "x"
	if l := scope.Free(x); !slices.Equal(l, []string{nth(7)}) {
		t.Error(l)
	}
}

// P7.1: a Case of as many tags as may be: in each the name of the next one is free.
func TestWideCase(t *testing.T) {
	const n = api.MaxNodes/2 - 2
	whole := api.Node{Kind: api.Case, Kids: []int{0}}
	x := api.Tree{Nodes: []api.Node{{Kind: api.Var, Name: nth(0)}}}
	var want []string
	for i := range n {
		whole.Names = append(whole.Names, nth(i), nth(i))
		x.Nodes = append(x.Nodes, api.Node{Kind: api.Var, Name: nth(i)}, api.Node{Kind: api.Var, Name: nth(i + 1)})
		app := api.Node{Kind: api.App, Kids: []int{len(x.Nodes) - 2, len(x.Nodes) - 1}}
		if len(x.Nodes)+(n-i) > api.MaxNodes-2 {
			x.Nodes = x.Nodes[:len(x.Nodes)-2]
			app = api.Node{Kind: api.Var, Name: nth(i)}
		} else {
			want = append(want, nth(i+1))
		}
		x.Nodes = append(x.Nodes, app)
		whole.Kids = append(whole.Kids, len(x.Nodes)-1)
	}
	x.Nodes = append(x.Nodes, whole)
	if d := scope.Check(x); d != (api.Diag{}) {
		t.Fatal(d)
	}
	if l := scope.Free(x); !slices.Equal(l, append([]string{nth(0)}, want...)) {
		t.Error(len(l), len(want))
	}
	for _, i := range []int{1, 4, 7, 3001} {
		if k, ok := scope.Binder(x, i); k != len(x.Nodes)-1 || !ok {
			t.Error(i, k, ok)
		}
		if k, ok := scope.Binder(x, i+1); k != 0 || ok {
			t.Error(i+1, k, ok)
		}
	}
	if k, ok := scope.Binder(x, 0); k != 0 || ok {
		t.Error(k, ok)
	}
}

// P7.1: many Lets in one another, each of a name of its own and of the Var that the one around it binds.
func TestManyNames(t *testing.T) {
	const n = (api.MaxNodes - 1) / 2
	x := api.Tree{Nodes: []api.Node{{Kind: api.Var, Name: nth(n - 1)}}}
	for i := n - 1; i >= 0; i-- {
		body := len(x.Nodes) - 1
		x.Nodes = append(x.Nodes, api.Node{Kind: api.Var, Name: nth(max(i, 1) - 1)})
		x.Nodes = append(x.Nodes, api.Node{Kind: api.Let, Name: nth(i), Kids: []int{body + 1, body}})
	}
	if l := scope.Free(x); !slices.Equal(l, []string{nth(0)}) {
		t.Error(len(l))
	}
	for _, i := range []int{0, 1, 2, n / 2, n - 2} {
		v := 2*i + 1 // what the (n-1-i)-th Let is of, which the one around it binds
		if k, ok := scope.Binder(x, v); k != v+3 || !ok {
			t.Error(i, k, ok)
		}
	}
	if k, ok := scope.Binder(x, len(x.Nodes)-2); k != 0 || ok {
		t.Error(k, ok)
	}
	x.Nodes[0].Name = nth(0)
	if k, ok := scope.Binder(x, 0); k != len(x.Nodes)-1 || !ok {
		t.Error(k, ok)
	}
}

// aliases is a tree with so many aliases, each with a name and with that for which it stands; none: int.
func aliases(n int, name, of func(i int) string) api.Tree {
	x := api.Tree{Nodes: []api.Node{{Kind: api.Int}}}
	for i := range n {
		typed := api.TypeNode{Kind: api.TInt}
		if s := of(i); s != "" {
			typed = api.TypeNode{Kind: api.TAlias, Name: s, Pos: n + i}
		}
		x.Types = append(x.Types, typed)
		x.Aliases = append(x.Aliases, api.Alias{Name: name(i), Type: i, Pos: i})
	}
	return x
}

func great(i int) string { return strings.ToUpper(nth(i)) }

// P7.1: as many aliases as may be, of which each stands for the next one, or the one ahead of it.
func TestLongChain(t *testing.T) {
	for _, n := range []int{1, 2, 3, 100, api.MaxNodes} {
		forward := aliases(n, great, func(i int) string {
			if i == n-1 {
				return ""
			}
			return great(i + 1)
		})
		back := aliases(n, great, func(i int) string {
			if i == 0 {
				return ""
			}
			return great(i - 1)
		})
		for _, x := range []api.Tree{forward, back} {
			if d := scope.Check(x); d != (api.Diag{}) {
				t.Errorf("%d: %v", n, d)
			}
		}
		for _, i := range []int{0, n / 2, n - 1} {
			if k, e := scope.Through(forward, i); k != n-1 || e != api.OK {
				t.Errorf("%d: Through of %d: %d, %d", n, i, k, e)
			}
			if k, e := scope.Through(back, i); k != 0 || e != api.OK {
				t.Errorf("%d: Through of %d: %d, %d", n, i, k, e)
			}
		}
		// A name at the end that none has.
		forward.Types[n-1] = api.TypeNode{Kind: api.TAlias, Name: "Z", Pos: 3 * n}
		if d := scope.Check(forward); d != (api.Diag{Error: api.ErrName, Pos: 3 * n, Name: "Z"}) {
			t.Errorf("%d: %v", n, d)
		}
		if k, e := scope.Through(forward, 0); k != 0 || e != api.ErrName {
			t.Errorf("%d: %d, %d", n, k, e)
		}
	}
}

// P7.1: a term's type that stands for the first of a row of aliases, each there just once on the way.
func TestChainFromTerm(t *testing.T) {
	for _, n := range []int{1, 2, 3, 4, 5, 50, api.MaxNodes - 1} {
		x := aliases(n, great, func(i int) string {
			if i == n-1 {
				return ""
			}
			return great(i + 1)
		})
		x.Types = append(x.Types, api.TypeNode{Kind: api.TAlias, Name: great(0)})
		x.Nodes = append(x.Nodes, api.Node{Kind: api.Ascribe, Kids: []int{0}, Types: []int{n}})
		if k, e := scope.Through(x, n); k != n-1 || e != api.OK {
			t.Errorf("%d: %d, %d", n, k, e)
		}
		for _, to := range []int{0, n / 2, n - 1} {
			x.Types[n-1] = api.TypeNode{Kind: api.TAlias, Name: great(to), Pos: n}
			if k, e := scope.Through(x, n); k != 0 || e != api.ErrLoop {
				t.Errorf("%d, back to %d: %d, %d", n, to, k, e)
			}
			if d := scope.Check(x); d != (api.Diag{Error: api.ErrLoop, Pos: to, Name: great(to)}) {
				t.Errorf("%d, back to %d: %v", n, to, d)
			}
		}
	}
}

// P7.1: one round of as many aliases as may be, and many short ones, and many that lead into one.
func TestManyRounds(t *testing.T) {
	const n = api.MaxNodes
	for what, of := range map[string]func(i int) int{
		"a long one":           func(i int) int { return (i + 1) % n },
		"a long one, backward": func(i int) int { return (i + n - 1) % n },
		"of one":               func(i int) int { return i },
		"of two":               func(i int) int { return i ^ 1 },
		"of many":              func(i int) int { return i&^0xff | (i+37)&0xff },
	} {
		x := aliases(n, great, func(i int) string { return great(of(i)) })
		if d := scope.Check(x); d != (api.Diag{Error: api.ErrLoop, Name: great(0)}) {
			t.Errorf("%s: %v", what, d)
		}
		// With the places turned round the last one is that which is told.
		for i := range x.Aliases {
			x.Aliases[i].Pos = -i
		}
		if d := scope.Check(x); d != (api.Diag{Error: api.ErrLoop, Pos: 1 - n, Name: great(n - 1)}) {
			t.Errorf("%s: %v", what, d)
		}
		for _, i := range []int{0, n / 2, n - 1} {
			if k, e := scope.Through(x, i); k != 0 || e != api.ErrLoop {
				t.Errorf("%s: %d, %d", what, k, e)
			}
		}
	}
	into := aliases(n, great, func(i int) string { return great(min(i+1, n-1)) })
	if d := scope.Check(into); d != (api.Diag{Error: api.ErrLoop, Pos: n - 1, Name: great(n - 1)}) {
		t.Error(d)
	}
	if k, e := scope.Through(into, 0); k != 0 || e != api.ErrLoop {
		t.Error(k, e)
	}
}

// P7.1: as many aliases as may be, of one name.
func TestManyOfOne(t *testing.T) {
	const n = api.MaxNodes
	x := aliases(n, func(i int) string { return "A" }, func(i int) string {
		if i == 0 {
			return ""
		}
		return "A"
	})
	if d := scope.Check(x); d != (api.Diag{Error: api.ErrTwice, Pos: 1, Name: "A"}) {
		t.Error(d)
	}
	for i := range x.Aliases {
		x.Aliases[i].Pos = -i
	}
	if d := scope.Check(x); d != (api.Diag{Error: api.ErrTwice, Pos: 1 - n, Name: "A"}) {
		t.Error(d)
	}
	for _, i := range []int{0, 1, n / 2, n - 1} {
		if k, e := scope.Through(x, i); k != 0 || e != api.OK {
			t.Error(i, k, e)
		}
	}
}

// P7.1: types as deep as may be, with an alias of its own within it, or one that none has.
func TestDeepTypes(t *testing.T) {
	for _, name := range []string{"A", "B"} {
		x := api.Tree{Nodes: []api.Node{{Kind: api.Int}}, Types: []api.TypeNode{{Kind: api.TAlias, Name: name, Pos: 5}}}
		for len(x.Types) < api.MaxNodes {
			x.Types = append(x.Types, api.TypeNode{Kind: api.TRecord, Names: []string{"a"}, Kids: []int{len(x.Types) - 1}})
		}
		x.Aliases = []api.Alias{{Name: "A", Type: len(x.Types) - 1}}
		want, to, f := api.Diag{}, len(x.Types)-1, api.OK
		if name == "B" {
			want, to, f = api.Diag{Error: api.ErrName, Pos: 5, Name: "B"}, 0, api.ErrName
		}
		if d := scope.Check(x); d != want {
			t.Error(d)
		}
		if k, e := scope.Through(x, 0); k != to || e != f {
			t.Error(k, e)
		}
	}
}
