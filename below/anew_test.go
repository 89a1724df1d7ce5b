package below_test

import (
	"fmt"
	"strconv"
	"strings"
	"testing"

	"azimuth/api"
	"azimuth/below"
	"azimuth/graph"
	"azimuth/parse"
)

// The chapter's words, said anew, pair by pair, so that the package isn't held against itself.

// made: a graph of heads, each its sign and, behind blanks, its kids, with a name and a colon ahead if they have one. Whether it may be isn't asked.
func made(root int, heads ...string) api.Graph {
	g := api.Graph{Root: root}
	for _, text := range heads {
		l := strings.Fields(text)
		h := api.Head{Kind: strings.Index("ibsfd*!>{[", l[0])}
		if l[0] == "]" {
			h.Kind, h.Open = api.TVariant, true
		}
		for _, kid := range l[1:] {
			if name, number, named := strings.Cut(kid, ":"); named {
				h.Names = append(h.Names, name)
				kid = number
			}
			n, err := strconv.Atoi(kid)
			if err != nil {
				panic("the test's own graph is wrong: " + text)
			}
			h.Kids = append(h.Kids, n)
		}
		g.L = append(g.L, h)
	}
	return g
}

// of: the graph of a type's text.
func of(t *testing.T, text string) api.Graph {
	t.Helper()
	x, d := parse.Type([]byte(text))
	if d.Error != api.OK {
		t.Fatalf("%q isn't parsed: %v", text, d)
	}
	g, e := graph.Of(x, len(x.Types)-1)
	if e != api.OK {
		t.Fatalf("%q: Of: %d", text, e)
	}
	return g
}

// under: the graph of a type's text, under aliases.
func under(t *testing.T, aliases, text string) api.Graph {
	t.Helper()
	x, d := parse.Text([]byte(aliases + " (x : " + text + ")"))
	if d.Error != api.OK {
		t.Fatalf("%q, %q isn't parsed: %v", aliases, text, d)
	}
	g, e := graph.Of(x, x.Nodes[len(x.Nodes)-1].Types[0])
	if e != api.OK {
		t.Fatalf("%q, %q: Of: %d", aliases, text, e)
	}
	return g
}

// relation tells, for each head of a graph, below which ones of another it is, as far as nothing has spoken against it; turned is the other way around.
type relation struct {
	a, b   api.Graph
	holds  [][]bool
	turned *relation
}

func allHold(a, b api.Graph) *relation {
	r := &relation{a: a, b: b, holds: make([][]bool, len(a.L))}
	for i := range r.holds {
		r.holds[i] = make([]bool, len(b.L))
		for j := range r.holds[i] {
			r.holds[i][j] = true
		}
	}
	return r
}

// kidOf: the kid of a name.
func kidOf(h api.Head, name string) (int, bool) {
	for k, n := range h.Names {
		if n == name {
			return h.Kids[k], true
		}
	}
	return 0, false
}

// speaksAgainst: what the chapter says of two heads, with what is known of their kids so far.
func (r *relation) speaksAgainst(i, j int) bool {
	it, that := r.a.L[i], r.b.L[j]
	switch {
	case it.Kind == api.TNone, that.Kind == api.TAny:
		return false
	case it.Kind != that.Kind:
		return true
	case it.Kind == api.TFun:
		return !r.turned.holds[that.Kids[0]][it.Kids[0]] || !r.holds[it.Kids[1]][that.Kids[1]]
	}
	if it.Kind == api.TVariant && it.Open && !that.Open {
		return true
	}
	for k, name := range it.Names {
		kid, has := kidOf(that, name)
		if has && !r.holds[it.Kids[k]][kid] || !has && it.Kind == api.TVariant && !that.Open {
			return true
		}
	}
	for k, name := range that.Names {
		_, has := kidOf(it, name)
		if !has && it.Kind == api.TRecord || !has && it.Open && r.b.L[that.Kids[k]].Kind != api.TAny {
			return true
		}
	}
	return false
}

// lessen takes away what something speaks against.
func (r *relation) lessen() (any bool) {
	for i, row := range r.holds {
		for j, holds := range row {
			if holds && r.speaksAgainst(i, j) {
				row[j], any = false, true
			}
		}
	}
	return any
}

// relationAnew: which heads of graphs that may be are below which, as the chapter says.
func relationAnew(a, b api.Graph) *relation {
	r := allHold(a, b)
	r.turned = allHold(b, a)
	r.turned.turned = r
	for r.lessen() || r.turned.lessen() {
	}
	return r
}

func belowAnew(a, b api.Graph) bool { return relationAnew(a, b).holds[a.Root][b.Root] }

// short: a graph, or its beginning, to be told.
func short(g api.Graph) string {
	s := fmt.Sprintf("%+v", g)
	if len(s) > 300 {
		s = s[:300] + ".."
	}
	return s
}

// told looks whether all three calls tell of two graphs whether the one is below the other one, and that the one.
func told(t *testing.T, what string, a, b api.Graph, there, back bool) {
	t.Helper()
	if below.Below(a, b) != there {
		t.Errorf("%s: Below isn't %v: %s, %s", what, there, short(a), short(b))
	}
	if below.Below(b, a) != back {
		t.Errorf("%s: Below, turned, isn't %v: %s, %s", what, back, short(b), short(a))
	}
	if both := there && back; below.Equal(a, b) != both || below.Equal(b, a) != both {
		t.Errorf("%s: Equal isn't %v: %s, %s", what, both, short(a), short(b))
	}
	table := below.Table([]api.Graph{a, b})
	if want := [][]bool{{true, there}, {back, true}}; fmt.Sprint(table) != fmt.Sprint(want) {
		t.Errorf("%s: Table: %v; it is %v: %s, %s", what, table, want, short(a), short(b))
	}
}

// asAnew looks whether what is told of two graphs that may be is as the words say anew.
func asAnew(t *testing.T, what string, a, b api.Graph) (there, back bool) {
	t.Helper()
	r := relationAnew(a, b)
	there, back = r.holds[a.Root][b.Root], r.turned.holds[b.Root][a.Root]
	told(t, what, a, b, there, back)
	return there, back
}
