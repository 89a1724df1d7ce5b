package arena_test

import (
	"fmt"
	"regexp"
	"slices"
	"strconv"
	"strings"
	"testing"

	"azimuth/api"
	"azimuth/arena"
)

const (
	most  = int(^uint(0) >> 1)
	least = -most - 1
)

// headMade: a head, its sign and, behind blanks, its kids, with a name and a colon ahead if they have one. Whether it may be isn't asked.
func headMade(text string) api.Head {
	l := strings.Fields(text)
	h := api.Head{Kind: strings.Index("ibsfd*!>{[", l[0])}
	if l[0] == "]" {
		h.Kind, h.Open = api.TVariant, true
	}
	for _, kid := range l[1:] {
		if name, number, named := strings.Cut(kid, ":"); named {
			h.Names = append(h.Names, name)
			kid = number
		}
		n, err := strconv.Atoi(kid)
		if err != nil {
			panic("the test's own head is wrong: " + text)
		}
		h.Kids = append(h.Kids, n)
	}
	return h
}

// made: a graph of such heads.
func made(root int, heads ...string) api.Graph {
	g := api.Graph{Root: root}
	for _, text := range heads {
		g.L = append(g.L, headMade(text))
	}
	return g
}

// short: something, or its beginning, to be told.
func short(x any) string {
	s := fmt.Sprintf("%+v", x)
	if len(s) > 300 {
		s = s[:300] + ".."
	}
	return s
}

func equalHeads(a, b api.Head) bool {
	return a.Kind == b.Kind && a.Open == b.Open && slices.Equal(a.Names, b.Names) && slices.Equal(a.Kids, b.Kids)
}

func clonedHead(h api.Head) api.Head {
	h.Names, h.Kids = slices.Clone(h.Names), slices.Clone(h.Kids)
	return h
}

// The words of chapter 8 of what a kind asks, of graphs that may be and of normal ones, said anew, so that the package isn't held against package graph.

var (
	namePattern = regexp.MustCompile(`^[a-z_][a-z_0-9]*$`)
	wordPattern = regexp.MustCompile(`^(fun|let|rec|in|if|then|else|case|of|end|true|false|int|bool|str|float|dyn|any|none|type)$`)
)

// mayBeHead: has a head what its kind asks, with so many parts or heads to be its kids?
func mayBeHead(h api.Head, parts int) bool {
	for _, kid := range h.Kids {
		if kid < 0 || kid >= parts {
			return false
		}
	}
	for i, name := range h.Names {
		word := wordPattern.MatchString(name)
		if !namePattern.MatchString(name) || word && h.Kind != api.TVariant || i > 0 && strings.Compare(h.Names[i-1], name) >= 0 {
			return false
		}
	}
	switch h.Kind {
	case api.TInt, api.TBool, api.TStr, api.TFloat, api.TDyn, api.TAny, api.TNone:
		return len(h.Names)+len(h.Kids) == 0 && !h.Open
	case api.TFun:
		return len(h.Names) == 0 && len(h.Kids) == 2 && !h.Open
	case api.TRecord:
		return len(h.Names) == len(h.Kids) && !h.Open
	case api.TVariant:
		return len(h.Names) == len(h.Kids)
	}
	return false
}

func mayBeGraph(g api.Graph) bool {
	if len(g.L) < 1 || len(g.L) > 4096 || g.Root < 0 || g.Root >= len(g.L) {
		return false
	}
	for _, h := range g.L {
		if !mayBeHead(h, len(g.L)) {
			return false
		}
	}
	return true
}

// alikeAnew: nothing on the ways from both heads, gone side by side, tells them from one another.
func alikeAnew(g api.Graph, i, j int) bool {
	met := map[[2]int]bool{{i, j}: true}
	for waiting := [][2]int{{i, j}}; len(waiting) > 0; waiting = waiting[1:] {
		a, b := g.L[waiting[0][0]], g.L[waiting[0][1]]
		if a.Kind != b.Kind || a.Open != b.Open || !slices.Equal(a.Names, b.Names) {
			return false
		}
		for k := range a.Kids {
			if p := [2]int{a.Kids[k], b.Kids[k]}; p[0] != p[1] && !met[p] {
				met[p] = true
				waiting = append(waiting, p)
			}
		}
	}
	return true
}

// normalAnew: the heads of the normal graph, in order.
func normalAnew(g api.Graph) []api.Head {
	var order []int // a head for each number
	number := func(i int) int {
		for n, j := range order {
			if alikeAnew(g, i, j) {
				return n
			}
		}
		order = append(order, i)
		return len(order) - 1
	}
	number(g.Root)
	var l []api.Head
	for n := 0; n < len(order); n++ {
		h := clonedHead(g.L[order[n]])
		for k := range h.Kids {
			h.Kids[k] = number(h.Kids[k])
		}
		l = append(l, h)
	}
	return l
}

// words are those of this chapter: an arena as a list of all that is told of each of its parts.
type words struct {
	most  int
	parts []partTold
}

type partTold struct {
	isVar     bool
	level     int
	head      api.Head
	low, high []int
}

func (w *words) Var(level int) (int, api.Errno) {
	if level < 0 {
		return 0, api.ErrArg
	}
	return w.add(partTold{isVar: true, level: level})
}

func (w *words) Head(h api.Head) (int, api.Errno) {
	if !mayBeHead(h, len(w.parts)) {
		return 0, api.ErrForm
	}
	level := 0
	for _, kid := range h.Kids {
		if l := w.parts[kid].level; l > level {
			level = l
		}
	}
	return w.add(partTold{level: level, head: clonedHead(h)})
}

func (w *words) Graph(g api.Graph) (int, api.Errno) {
	if !mayBeGraph(g) {
		return 0, api.ErrForm
	}
	var l []partTold
	for _, h := range normalAnew(g) {
		for k := range h.Kids {
			h.Kids[k] += len(w.parts)
		}
		l = append(l, partTold{head: h})
	}
	return w.add(l...)
}

func (w *words) add(l ...partTold) (int, api.Errno) {
	if len(w.parts)+len(l) > w.most {
		return 0, api.ErrLimit
	}
	w.parts = append(w.parts, l...)
	return len(w.parts) - len(l), api.OK
}

func (w *words) Bound(i, j int, above bool) (bool, api.Errno) {
	if i < 0 || i >= len(w.parts) || !w.parts[i].isVar || j < 0 || j >= len(w.parts) {
		return false, api.ErrArg
	}
	row := &w.parts[i].low
	if above {
		row = &w.parts[i].high
	}
	if slices.Contains(*row, j) {
		return false, api.OK
	}
	*row = append(*row, j)
	return true, api.OK
}

// two is an arena, and the words of it: what is done is done to both, and told by both.
type two struct {
	t *testing.T
	*arena.Arena
	words *words
}

func pair(t *testing.T, most int) *two {
	t.Helper()
	a, e := arena.New(most)
	if e != api.OK || a == nil {
		t.Fatalf("New of %d: %d", most, e)
	}
	return &two{t, a, &words{most: most}}
}

// same looks whether a call answered a number and an error as the words do, and hands the number on.
func (x *two) same(what string, i int, e api.Errno, j int, f api.Errno) int {
	x.t.Helper()
	if i != j || e != f {
		x.t.Fatalf("%s, behind %d parts of %d: %d, %d; the words say %d, %d", what, len(x.words.parts), x.words.most, i, e, j, f)
	}
	return i
}

func (x *two) Var(level int) int {
	x.t.Helper()
	i, e := x.Arena.Var(level)
	j, f := x.words.Var(level)
	return x.same(fmt.Sprint("Var of ", level), i, e, j, f)
}

func (x *two) Head(h api.Head) int {
	x.t.Helper()
	i, e := x.Arena.Head(h)
	j, f := x.words.Head(h)
	return x.same("Head of "+short(h), i, e, j, f)
}

// head of a text, as headMade has it.
func (x *two) head(text string) int {
	x.t.Helper()
	return x.Head(headMade(text))
}

func (x *two) Graph(g api.Graph) int {
	x.t.Helper()
	i, e := x.Arena.Graph(g)
	j, f := x.words.Graph(g)
	return x.same("Graph of "+short(g), i, e, j, f)
}

func (x *two) Bound(i, j int, above bool) {
	x.t.Helper()
	first, e := x.Arena.Bound(i, j, above)
	if want, f := x.words.Bound(i, j, above); first != want || e != f {
		x.t.Fatalf("Bound of %d by %d, above %v: %v, %d; the words say %v, %d", i, j, above, first, e, want, f)
	}
}

// outside: numbers that none of so many parts has.
func outside(n int) []int { return []int{-1, n, n + 1, -n - 1, most, least, n + 1<<32, -1 << 32} }

// asAnew looks whether all that is told of the arena is as the words say.
func (x *two) asAnew(what string) {
	x.t.Helper()
	w := x.words
	if n := x.Len(); n != len(w.parts) {
		x.t.Fatalf("%s: Len %d; it is %d", what, n, len(w.parts))
	}
	if n := x.Room(); n != w.most-len(w.parts) {
		x.t.Fatalf("%s: Room %d, with %d parts of %d", what, n, len(w.parts), w.most)
	}
	for i, p := range w.parts {
		x.partAsAnew(what, i, p)
	}
	for _, i := range outside(len(w.parts)) {
		x.partAsAnew(what, i, partTold{})
		if x.IsVar(i) {
			x.t.Errorf("%s: IsVar of %d, which isn't there", what, i)
		}
	}
	x.partsAsAnew(what)
}

// partAsAnew looks so at a part; one without a kind told is none, as a variable's head has none.
func (x *two) partAsAnew(what string, i int, p partTold) {
	x.t.Helper()
	there := i >= 0 && i < len(x.words.parts)
	if l := x.Level(i); l != p.level {
		x.t.Errorf("%s: Level of %d: %d; it is %d", what, i, l, p.level)
	}
	if is := x.IsVar(i); is != p.isVar {
		x.t.Errorf("%s: IsVar of %d: %v", what, i, is)
	}
	if h, ok := x.At(i); ok != (there && !p.isVar) || !equalHeads(h, p.head) {
		x.t.Errorf("%s: At %d: %v, %v; it is %v", what, i, h, ok, p.head)
	}
	if l := x.Low(i); !slices.Equal(l, p.low) {
		x.t.Errorf("%s: Low of %d: %v; it is %v", what, i, l, p.low)
	}
	if l := x.High(i); !slices.Equal(l, p.high) {
		x.t.Errorf("%s: High of %d: %v; it is %v", what, i, l, p.high)
	}
}

func (x *two) partsAsAnew(what string) {
	x.t.Helper()
	at := 0
	next := func() {
		for at < len(x.words.parts) && x.words.parts[at].isVar {
			at++
		}
	}
	next()
	for i, h := range x.Parts() {
		if i != at || at >= len(x.words.parts) || !equalHeads(h, x.words.parts[at].head) {
			x.t.Fatalf("%s: Parts tells %d, %v; the next head is %d", what, i, h, at)
		}
		at++
		next()
	}
	if at < len(x.words.parts) {
		x.t.Fatalf("%s: Parts doesn't tell %d", what, at)
	}
}
