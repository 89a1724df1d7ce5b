package graph_test

import (
	"fmt"
	"regexp"
	"slices"
	"strconv"
	"strings"
	"testing"

	"azimuth/api"
	"azimuth/graph"
)

// The chapter's words, said anew, head by head, so that the package isn't held against itself.

// made: a graph of heads, each its sign and, behind blanks, its kids, with a name and a colon ahead if they have one. Heads are as they are written: whether they may be isn't asked.
func made(root int, heads ...string) api.Graph {
	g := api.Graph{Root: root}
	for _, text := range heads {
		l := strings.Fields(text)
		h := api.Head{Kind: strings.Index("ibsfd*!>{[", l[0])}
		if l[0] == "]" {
			h.Kind, h.Open = api.TVariant, true
		}
		for _, kid := range l[1:] {
			if name, number, named := strings.Cut(kid, ":"); named {
				h.Names = append(h.Names, name)
				kid = number
			}
			n, err := strconv.Atoi(kid)
			if err != nil {
				panic("the test's own graph is wrong: " + text)
			}
			h.Kids = append(h.Kids, n)
		}
		g.L = append(g.L, h)
	}
	return g
}

func equalHeads(a, b api.Head) bool {
	return a.Kind == b.Kind && a.Open == b.Open && slices.Equal(a.Names, b.Names) && slices.Equal(a.Kids, b.Kids)
}

// equal: are both the same, number by number? nil and empty lists are.
func equal(a, b api.Graph) bool { return a.Root == b.Root && slices.EqualFunc(a.L, b.L, equalHeads) }

var (
	namePattern = regexp.MustCompile(`^[a-z_][a-z_0-9]*$`)
	wordPattern = regexp.MustCompile(`^(fun|let|rec|in|if|then|else|case|of|end|true|false|int|bool|str|float|dyn|any|none|type)$`)
)

func mayBeAnew(g api.Graph) bool {
	if len(g.L) < 1 || len(g.L) > 4096 || g.Root < 0 || g.Root >= len(g.L) {
		return false
	}
	for _, h := range g.L {
		for _, kid := range h.Kids {
			if kid < 0 || kid >= len(g.L) {
				return false
			}
		}
		for i, name := range h.Names {
			word := wordPattern.MatchString(name)
			if !namePattern.MatchString(name) || word && h.Kind != api.TVariant || i > 0 && strings.Compare(h.Names[i-1], name) >= 0 {
				return false
			}
		}
		switch h.Kind {
		case api.TInt, api.TBool, api.TStr, api.TFloat, api.TDyn, api.TAny, api.TNone:
			if len(h.Names)+len(h.Kids) > 0 || h.Open {
				return false
			}
		case api.TFun:
			if len(h.Names) > 0 || len(h.Kids) != 2 || h.Open {
				return false
			}
		case api.TRecord:
			if len(h.Names) != len(h.Kids) || h.Open {
				return false
			}
		case api.TVariant:
			if len(h.Names) != len(h.Kids) {
				return false
			}
		default:
			return false
		}
	}
	return true
}

// alikeAnew: nothing on the ways from both heads, gone side by side, tells them from one another.
func alikeAnew(g api.Graph, i, j int) bool {
	met := map[[2]int]bool{{i, j}: true}
	for waiting := [][2]int{{i, j}}; len(waiting) > 0; waiting = waiting[1:] {
		a, b := g.L[waiting[0][0]], g.L[waiting[0][1]]
		if a.Kind != b.Kind || a.Open != b.Open || !slices.Equal(a.Names, b.Names) {
			return false
		}
		for k := range a.Kids {
			if p := [2]int{a.Kids[k], b.Kids[k]}; p[0] != p[1] && !met[p] {
				met[p] = true
				waiting = append(waiting, p)
			}
		}
	}
	return true
}

func normalAnew(g api.Graph) api.Graph {
	var order []int // a head for each number
	number := func(i int) int {
		for n, j := range order {
			if alikeAnew(g, i, j) {
				return n
			}
		}
		order = append(order, i)
		return len(order) - 1
	}
	number(g.Root)
	var x api.Graph
	for n := 0; n < len(order); n++ {
		h := g.L[order[n]]
		h.Kids = slices.Clone(h.Kids)
		for k := range h.Kids {
			h.Kids[k] = number(h.Kids[k])
		}
		x.L = append(x.L, h)
	}
	return x
}

func bytesAnew(g api.Graph) string {
	s := ""
	for _, h := range normalAnew(g).L {
		sign := map[int]string{
			api.TInt: "i", api.TBool: "b", api.TStr: "s", api.TFloat: "f", api.TDyn: "d", api.TAny: "*", api.TNone: "!",
			api.TFun: ">", api.TRecord: "{", api.TVariant: "[",
		}[h.Kind]
		if h.Open {
			sign = "]"
		}
		s += sign
		for k, kid := range h.Kids {
			if h.Kind != api.TFun {
				s += h.Names[k] + ":"
			}
			s += fmt.Sprintf("%d,", kid)
		}
		s += ";"
	}
	return s
}

// outside: numbers that none of so many has.
func outside(n int) []int { return []int{-1, n, n + 1, -n - 1, most, least} }

const (
	most  = int(^uint(0) >> 1)
	least = -most - 1
)

// asAnew looks whether all that is told of a graph is as the words say anew.
func asAnew(t *testing.T, g api.Graph) {
	t.Helper()
	if !mayBeAnew(g) {
		refused(t, fmt.Sprint(short(g)), g)
		return
	}
	if e := graph.Check(g); e != api.OK {
		t.Errorf("%v: Check: %d", short(g), e)
	}
	text := bytesAnew(g)
	if x, e := graph.Normal(g); e != api.OK || !equal(x, normalAnew(g)) {
		t.Errorf("%v: Normal: %v, %d; it is %v", short(g), short(x), e, text)
	}
	if b, e := graph.Bytes(g); e != api.OK || string(b) != text {
		t.Errorf("%v: Bytes: %.200q, %d; it is %.200q", short(g), b, e, text)
	}
	if x, e := graph.Parse([]byte(text)); e != api.OK || !equal(x, normalAnew(g)) {
		t.Errorf("%.200q: Parse: %v, %d", text, short(x), e)
	}
	if !graph.Same(g, g) || !graph.Same(g, normalAnew(g)) || !graph.Same(normalAnew(g), g) {
		t.Errorf("%v: isn't Same as its normal graph", short(g))
	}
	for i := range g.L {
		from := api.Graph{L: g.L, Root: i}
		if x, e := graph.At(g, i); e != api.OK || !equal(x, normalAnew(from)) {
			t.Errorf("%v: At %d: %v, %d; it is %v", short(g), i, short(x), e, bytesAnew(from))
		}
		if same := alikeAnew(g, g.Root, i); graph.Same(g, from) != same || graph.Same(from, g) != same {
			t.Errorf("%v: Same as its head %d: not %v", short(g), i, same)
		}
	}
	for _, i := range outside(len(g.L)) {
		if x, e := graph.At(g, i); e != api.ErrNone || !equal(x, api.Graph{}) {
			t.Errorf("%v: At %d: %v, %d", short(g), i, short(x), e)
		}
	}
}

// short: a graph, or its beginning, to be told.
func short(g api.Graph) string {
	s := fmt.Sprintf("%+v", g)
	if len(s) > 300 {
		s = s[:300] + ".."
	}
	return s
}
