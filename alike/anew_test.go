package alike_test

import (
	"fmt"
	"slices"
	"strconv"
	"strings"
	"testing"

	"azimuth/alike"
	"azimuth/api"
	"azimuth/graph"
	"azimuth/parse"
)

// The chapter's words, said anew, pair by pair, so that the package isn't held against itself.

// made: a graph of heads, each its sign and, behind blanks, its kids, with a name and a colon ahead if they have one. Whether it may be isn't asked.
func made(root int, heads ...string) api.Graph {
	g := api.Graph{Root: root}
	for _, text := range heads {
		l := strings.Fields(text)
		h := api.Head{Kind: strings.Index("ibsfd*!>{[", l[0])}
		if l[0] == "]" {
			h.Kind, h.Open = api.TVariant, true
		}
		for _, kid := range l[1:] {
			if name, number, named := strings.Cut(kid, ":"); named {
				h.Names = append(h.Names, name)
				kid = number
			}
			n, err := strconv.Atoi(kid)
			if err != nil {
				panic("the test's own graph is wrong: " + text)
			}
			h.Kids = append(h.Kids, n)
		}
		g.L = append(g.L, h)
	}
	return g
}

// of: the graph of a type's text.
func of(t *testing.T, text string) api.Graph {
	t.Helper()
	x, d := parse.Type([]byte(text))
	if d.Error != api.OK {
		t.Fatalf("%q isn't parsed: %v", text, d)
	}
	g, e := graph.Of(x, len(x.Types)-1)
	if e != api.OK {
		t.Fatalf("%q: Of: %d", text, e)
	}
	return g
}

// under: the graph of a type's text, under aliases.
func under(t *testing.T, aliases, text string) api.Graph {
	t.Helper()
	x, d := parse.Text([]byte(aliases + " (x : " + text + ")"))
	if d.Error != api.OK {
		t.Fatalf("%q, %q isn't parsed: %v", aliases, text, d)
	}
	g, e := graph.Of(x, x.Nodes[len(x.Nodes)-1].Types[0])
	if e != api.OK {
		t.Fatalf("%q, %q: Of: %d", aliases, text, e)
	}
	return g
}

// relation tells, for each head of a graph, to which ones of another a cast may be, as far as nothing has spoken against it; turned is the other way around.
type relation struct {
	a, b   side
	may    [][]bool
	turned *relation
}

// side is a graph with one more head, a dyn, with that one's number.
type side struct {
	l   []api.Head
	dyn int
}

func sideOf(g api.Graph) side {
	return side{append(slices.Clone(g.L), api.Head{Kind: api.TDyn}), len(g.L)}
}

// takes and tells: what a head takes and tells, if it is a TFun or dyn.
func (s side) takes(h api.Head) int {
	if h.Kind == api.TDyn {
		return s.dyn
	}
	return h.Kids[0]
}

func (s side) tells(h api.Head) int {
	if h.Kind == api.TDyn {
		return s.dyn
	}
	return h.Kids[1]
}

// kid: the kid of a name; a dyn has each.
func (s side) kid(h api.Head, name string) (int, bool) {
	if h.Kind == api.TDyn {
		return s.dyn, true
	}
	for k, n := range h.Names {
		if n == name {
			return h.Kids[k], true
		}
	}
	return 0, false
}

func allMay(a, b side) *relation {
	r := &relation{a: a, b: b, may: make([][]bool, len(a.l))}
	for i := range r.may {
		r.may[i] = make([]bool, len(b.l))
		for j := range r.may[i] {
			r.may[i][j] = true
		}
	}
	return r
}

// mayBe: what the chapter says of two heads, with what is known of their kids so far.
func (r *relation) mayBe(i, j int) bool {
	this, that := r.a.l[i], r.b.l[j]
	isOrDyn := func(kind int) bool {
		return (this.Kind == kind || this.Kind == api.TDyn) && (that.Kind == kind || that.Kind == api.TDyn)
	}
	bare := []int{api.TInt, api.TBool, api.TStr, api.TFloat, api.TDyn, api.TAny, api.TNone}
	switch {
	case this.Kind == api.TNone, that.Kind == api.TAny:
		return true
	case this.Kind == api.TDyn && slices.Contains(bare, that.Kind):
		return true
	case slices.Contains(bare, this.Kind) && slices.Contains(bare, that.Kind):
		return this.Kind != api.TAny && (this.Kind == that.Kind || that.Kind == api.TDyn)
	case isOrDyn(api.TFun):
		return r.turned.may[r.b.takes(that)][r.a.takes(this)] && r.may[r.a.tells(this)][r.b.tells(that)]
	case isOrDyn(api.TRecord):
		return r.record(this, that)
	case isOrDyn(api.TVariant):
		return r.variant(this, that)
	}
	return false
}

func (r *relation) record(this, that api.Head) bool {
	for _, name := range that.Names {
		if it, has := r.a.kid(this, name); !has || !r.kids(it, that, name) {
			return false
		}
	}
	for k, name := range this.Names {
		if that.Kind == api.TDyn && !r.kids(this.Kids[k], that, name) {
			return false
		}
	}
	return true
}

func (r *relation) kids(it int, that api.Head, name string) bool {
	kid, has := r.b.kid(that, name)
	return has && r.may[it][kid]
}

func (r *relation) variant(this, that api.Head) bool {
	if this.Open && that.Kind == api.TDyn {
		return false
	}
	for _, name := range append(slices.Clone(this.Names), that.Names...) {
		it, has := r.a.kid(this, name)
		kid, hasToo := r.b.kid(that, name)
		if has && hasToo && !r.may[it][kid] {
			return false
		}
		if this.Open && !has && r.b.l[kid].Kind != api.TAny {
			return false
		}
	}
	return true
}

// lessen takes away what something speaks against.
func (r *relation) lessen() (any bool) {
	for i, row := range r.may {
		for j, may := range row {
			if may && !r.mayBe(i, j) {
				row[j], any = false, true
			}
		}
	}
	return any
}

// relationAnew: to which heads of graphs that may be casts may be from which, as the chapter says.
func relationAnew(a, b api.Graph) *relation {
	r := allMay(sideOf(a), sideOf(b))
	r.turned = allMay(r.b, r.a)
	r.turned.turned = r
	for r.lessen() || r.turned.lessen() {
	}
	return r
}

func mayAnew(a, b api.Graph) bool { return relationAnew(a, b).may[a.Root][b.Root] }

// short: a graph, or its beginning, to be told.
func short(g api.Graph) string {
	s := fmt.Sprintf("%+v", g)
	if len(s) > 300 {
		s = s[:300] + ".."
	}
	return s
}

// told looks whether May tells of two graphs whether a cast from the one to the other one may be, and back.
func told(t *testing.T, what string, a, b api.Graph, there, back bool) {
	t.Helper()
	if alike.May(a, b) != there {
		t.Errorf("%s: May isn't %v: %s, %s", what, there, short(a), short(b))
	}
	if alike.May(b, a) != back {
		t.Errorf("%s: May, turned, isn't %v: %s, %s", what, back, short(b), short(a))
	}
}

// dynTold looks whether a cast from a graph to dyn may be, and one from dyn to it, told by ToDyn, FromDyn and May.
func dynTold(t *testing.T, what string, g api.Graph, to, from bool) {
	t.Helper()
	if alike.ToDyn(g) != to {
		t.Errorf("%s: ToDyn isn't %v: %s", what, to, short(g))
	}
	if alike.FromDyn(g) != from {
		t.Errorf("%s: FromDyn isn't %v: %s", what, from, short(g))
	}
	told(t, what+", and dyn", g, graph.Basic(api.TDyn), to, from)
}

// asAnew looks whether what is told of two graphs that may be, and of each with dyn, is as the words say anew.
func asAnew(t *testing.T, what string, a, b api.Graph) (there, back bool) {
	t.Helper()
	r := relationAnew(a, b)
	there, back = r.may[a.Root][b.Root], r.turned.may[b.Root][a.Root]
	told(t, what, a, b, there, back)
	dynTold(t, what, a, r.may[a.Root][r.b.dyn], r.turned.may[r.b.dyn][a.Root])
	dynTold(t, what, b, r.turned.may[b.Root][r.a.dyn], r.may[r.a.dyn][b.Root])
	return there, back
}
