package polar_test

import (
	"fmt"
	"slices"
	"strconv"
	"strings"
	"testing"

	"azimuth/api"
	"azimuth/arena"
	"azimuth/graph"
	"azimuth/parse"
	"azimuth/polar"
)

const (
	most  = int(^uint(0) >> 1)
	least = -most - 1
)

// world is an arena. Parts are told by texts of types; an alias in these is a variable, its level the number at its name's end, without one 0.
type world struct {
	t *testing.T
	*arena.Arena
	parts map[string]int
}

func newWorld(t *testing.T, room int) *world {
	t.Helper()
	a, e := arena.New(room)
	if e != api.OK {
		t.Fatal(e)
	}
	return &world{t, a, map[string]int{}}
}

// part: the number of a text's part, the same for the same text; within a text each type but the variables is a part of its own. One with aliases of its own ahead, "type A = ..; A", goes in as a graph.
func (w *world) part(text string) int {
	w.t.Helper()
	if i, known := w.parts[text]; known {
		return i
	}
	i := 0
	if strings.HasPrefix(text, "type") {
		i = w.ok(w.Graph(graphOf(w.t, text)))
	} else {
		tree, d := parse.Type([]byte(text))
		if d.Error != api.OK {
			w.t.Fatalf("the test's own text is wrong: %q: %v", text, d)
		}
		i = w.typed(tree, len(tree.Types)-1)
	}
	w.parts[text] = i
	return i
}

// graphOf: the normal graph of a type's text, perhaps with aliases ahead.
func graphOf(t *testing.T, text string) api.Graph {
	t.Helper()
	at := strings.LastIndex(text, ";") + 1
	tree, d := parse.Text([]byte(text[:at] + "(x : " + text[at:] + ")"))
	if d.Error != api.OK {
		t.Fatalf("the test's own text is wrong: %q: %v", text, d)
	}
	g, e := graph.Of(tree, tree.Nodes[len(tree.Nodes)-1].Types[0])
	if e != api.OK {
		t.Fatal(text, e)
	}
	return g
}

// typed: the part of a tree's type.
func (w *world) typed(tree api.Tree, at int) int {
	w.t.Helper()
	n := tree.Types[at]
	if n.Kind == api.TAlias {
		i, known := w.parts[n.Name]
		if !known {
			level, _ := strconv.Atoi(strings.TrimLeft(n.Name, "ABCDEFGHIJKLMNOPQRSTUVWXYZabcdefghijklmnopqrstuvwxyz"))
			i = w.ok(w.Var(level))
			w.parts[n.Name] = i
		}
		return i
	}
	kids := map[string]int{}
	h := api.Head{Kind: n.Kind, Names: slices.Clone(n.Names), Open: n.Open}
	for k, kid := range n.Kids {
		i := w.typed(tree, kid)
		if n.Kind == api.TFun {
			h.Kids = append(h.Kids, i)
		} else {
			kids[n.Names[k]] = i
		}
	}
	slices.Sort(h.Names)
	for _, name := range h.Names {
		h.Kids = append(h.Kids, kids[name])
	}
	return w.ok(w.Head(h))
}

func (w *world) ok(i int, e api.Errno) int {
	w.t.Helper()
	if e != api.OK {
		w.t.Fatalf("the test's own part is wrong: %d", e)
	}
	return i
}

// bind tells bounds: each a text of a variable, a sign (< or >), and a text of what is above it, or below.
func (w *world) bind(bounds ...string) {
	w.t.Helper()
	for _, text := range bounds {
		l := strings.SplitN(text, " ", 3)
		if _, e := w.Bound(w.part(l[0]), w.part(l[2]), l[1] == "<"); e != api.OK {
			w.t.Fatalf("the test's own bound is wrong: %q: %d", text, e)
		}
	}
}

// named: the text of a variable.
func (w *world) named(v int) string {
	for text, i := range w.parts {
		if i == v && w.IsVar(v) {
			return text
		}
	}
	return "?" + strconv.Itoa(v)
}

// signs of kinds, as chapter 8 has them.
const signs = "ibsfd*!>{["

// text of an automaton: for each state, behind a blank, its sign and its parts, divided by |: its variables, an apostrophe ahead of each, and its heads, each its kind's sign (an open variant's ]) and its kids, divided by commas. Of another root than 0 that is told ahead.
func text(x polar.Auto, named func(v int) string) string {
	var l []string
	if x.Root != 0 {
		l = append(l, fmt.Sprintf("root %d:", x.Root))
	}
	for _, s := range x.L {
		var parts []string
		for _, v := range s.Vars {
			parts = append(parts, "'"+named(v))
		}
		for _, h := range s.Heads {
			parts = append(parts, headText(h))
		}
		l = append(l, map[bool]string{true: "+", false: "-"}[s.Plus]+strings.Join(parts, "|"))
	}
	return strings.Join(l, " ")
}

func headText(h api.Head) string {
	if h.Kind < 0 || h.Kind >= len(signs) || h.Open && h.Kind != api.TVariant || len(h.Names) > 0 && len(h.Names) != len(h.Kids) {
		return fmt.Sprintf("?%+v", h)
	}
	sign := signs[h.Kind : h.Kind+1]
	if h.Open {
		sign = "]"
	}
	var kids []string
	for k, kid := range h.Kids {
		name := ""
		if len(h.Names) > 0 {
			name = h.Names[k] + ":"
		}
		kids = append(kids, name+strconv.Itoa(kid))
	}
	return sign + strings.Join(kids, ",")
}

// auto of such a text, its variables told by numbers, its root the first state.
func auto(text string) polar.Auto {
	var x polar.Auto
	for _, state := range strings.Fields(text) {
		s := polar.State{Plus: state[0] == '+'}
		for _, part := range strings.Split(state[1:], "|") {
			switch {
			case part == "":
			case part[0] == '\'':
				s.Vars = append(s.Vars, number(part[1:]))
			default:
				s.Heads = append(s.Heads, headOf(part))
			}
		}
		x.L = append(x.L, s)
	}
	return x
}

func headOf(text string) api.Head {
	h := api.Head{Kind: strings.Index(signs, text[:1])}
	if text[0] == ']' {
		h.Kind, h.Open = api.TVariant, true
	}
	for _, piece := range strings.Split(text[1:], ",") {
		if piece == "" {
			continue
		}
		if name, kid, named := strings.Cut(piece, ":"); named {
			h.Names = append(h.Names, name)
			piece = kid
		}
		h.Kids = append(h.Kids, number(piece))
	}
	return h
}

func number(text string) int {
	n, err := strconv.Atoi(text)
	if err != nil {
		panic("the test's own number is wrong: " + text)
	}
	return n
}

func equalHeads(a, b api.Head) bool {
	return a.Kind == b.Kind && a.Open == b.Open && slices.Equal(a.Names, b.Names) && slices.Equal(a.Kids, b.Kids)
}

func equal(x, y polar.Auto) bool {
	return x.Root == y.Root && slices.EqualFunc(x.L, y.L, func(s, r polar.State) bool {
		return s.Plus == r.Plus && slices.Equal(s.Vars, r.Vars) && slices.EqualFunc(s.Heads, r.Heads, equalHeads)
	})
}

// short: something, or its beginning, to be told.
func short(x any) string {
	s := fmt.Sprintf("%+v", x)
	if len(s) > 400 {
		s = s[:400] + ".."
	}
	return s
}
