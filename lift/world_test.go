package lift_test

import (
	"slices"
	"strconv"
	"strings"
	"testing"

	"azimuth/api"
	"azimuth/arena"
	"azimuth/graph"
	"azimuth/parse"
)

const (
	most  = int(^uint(0) >> 1)
	least = -most - 1
)

// world is an arena. Parts are told by texts of types; an alias in these is a variable, its level the number at its name's end, without one 0.
type world struct {
	t *testing.T
	*arena.Arena
	parts map[string]int
}

func newWorld(t *testing.T, room int) *world {
	t.Helper()
	a, e := arena.New(room)
	if e != api.OK {
		t.Fatal(e)
	}
	return &world{t, a, map[string]int{}}
}

// part: the number of a text's part, the same for the same text. One with aliases of its own ahead, "type A = ..; A", goes in as a graph.
func (w *world) part(text string) int {
	w.t.Helper()
	if i, known := w.parts[text]; known {
		return i
	}
	i := 0
	if strings.HasPrefix(text, "type") {
		i = w.round(text)
	} else {
		tree, d := parse.Type([]byte(text))
		if d.Error != api.OK {
			w.t.Fatalf("the test's own text is wrong: %q: %v", text, d)
		}
		i = w.typed(tree, len(tree.Types)-1)
	}
	w.parts[text] = i
	return i
}

func (w *world) round(text string) int {
	w.t.Helper()
	at := strings.LastIndex(text, ";") + 1
	tree, d := parse.Text([]byte(text[:at] + "(x : " + text[at:] + ")"))
	if d.Error != api.OK {
		w.t.Fatalf("the test's own text is wrong: %q: %v", text, d)
	}
	g, e := graph.Of(tree, tree.Nodes[len(tree.Nodes)-1].Types[0])
	if e != api.OK {
		w.t.Fatal(text, e)
	}
	return w.ok(w.Graph(g))
}

// typed: the part of a tree's type.
func (w *world) typed(tree api.Tree, at int) int {
	w.t.Helper()
	n := tree.Types[at]
	if n.Kind == api.TAlias {
		i, known := w.parts[n.Name]
		if !known {
			level, _ := strconv.Atoi(strings.TrimLeft(n.Name, "ABCDEFGHIJKLMNOPQRSTUVWXYZabcdefghijklmnopqrstuvwxyz"))
			i = w.ok(w.Var(level))
			w.parts[n.Name] = i
		}
		return i
	}
	kids := map[string]int{}
	h := api.Head{Kind: n.Kind, Names: slices.Clone(n.Names), Open: n.Open}
	for k, kid := range n.Kids {
		i := w.typed(tree, kid)
		if n.Kind == api.TFun {
			h.Kids = append(h.Kids, i)
		} else {
			kids[n.Names[k]] = i
		}
	}
	slices.Sort(h.Names)
	for _, name := range h.Names {
		h.Kids = append(h.Kids, kids[name])
	}
	return w.ok(w.Head(h))
}

func (w *world) ok(i int, e api.Errno) int {
	w.t.Helper()
	if e != api.OK {
		w.t.Fatalf("the test's own part is wrong: %d", e)
	}
	return i
}

// bind tells bounds: each a text of a variable, a sign (< or >), and a text of what is above it, or below.
func (w *world) bind(bounds ...string) {
	w.t.Helper()
	for _, text := range bounds {
		l := strings.SplitN(text, " ", 3)
		if _, e := w.Bound(w.part(l[0]), w.part(l[2]), l[1] == "<"); e != api.OK {
			w.t.Fatalf("the test's own bound is wrong: %q: %d", text, e)
		}
	}
}

// numbers of texts' parts, rising.
func (w *world) numbers(texts ...string) (l []int) {
	w.t.Helper()
	for _, text := range texts {
		l = append(l, w.part(text))
	}
	slices.Sort(l)
	return l
}
