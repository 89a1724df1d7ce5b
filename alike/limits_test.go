package alike_test

import (
	"fmt"
	"slices"
	"testing"

	"azimuth/alike"
	"azimuth/api"
)

// The ways in which a head can be another one's only kid that isn't a str.
var ways = []string{"record", "closed", "open", "taken", "told"}

func parent(way string, kid, str int) api.Head {
	switch way {
	case "taken":
		return api.Head{Kind: api.TFun, Kids: []int{kid, str}}
	case "told":
		return api.Head{Kind: api.TFun, Kids: []int{str, kid}}
	}
	h := api.Head{Kind: api.TRecord, Names: []string{"a"}, Kids: []int{kid}}
	if way != "record" {
		h.Kind, h.Open = api.TVariant, way == "open"
	}
	return h
}

// row: so many heads, each the next one's parent, and behind them one of a kind, and a str.
func row(n int, way string, kind int) api.Graph {
	g := api.Graph{L: make([]api.Head, n+2)}
	for i := range n {
		g.L[i] = parent(way, i+1, n+1)
	}
	g.L[n].Kind, g.L[n+1].Kind = kind, api.TStr
	return g
}

// P10.1: types that differ only as far away as may be, or in nothing, against one another and against dyn; what functions take turns each time.
func TestFarAway(t *testing.T) {
	kinds := map[int]string{api.TInt: "int", api.TAny: "any", api.TNone: "none", api.TDyn: "dyn"}
	for _, way := range ways {
		for n := 4093; n <= 4094; n++ {
			turned := way == "taken" && n%2 == 1
			for one, its := range kinds {
				to, from := isBase(its, "dyn"), isBase("dyn", its)
				if turned {
					to, from = from, to
				}
				dynTold(t, fmt.Sprint(way, n, its), row(n, way, one), to && way != "open", from)
				for other, that := range kinds {
					there := isBase(its, that)
					if turned {
						there = isBase(that, its)
					}
					if (way == "taken" || n == 4094) && alike.May(row(n, way, one), row(n, way, other)) != there {
						t.Errorf("%s, %d: %s and %s: not %v", way, n, its, that, there)
					}
				}
			}
		}
		// What stands in an open variant can be cast to no dyn.
		told(t, "a longer row: "+way, row(4094, way, api.TInt), row(4093, way, api.TInt), false, false)
		told(t, "a row that ends in dyn: "+way, row(4094, way, api.TInt), row(4093, way, api.TDyn), way != "open", true)
	}
	told(t, "a row that ends in any", row(4094, "told", api.TInt), row(4093, "told", api.TAny), true, false)
	told(t, "a row that ends in none", row(4094, "told", api.TInt), row(4093, "told", api.TNone), false, true)
	told(t, "a row that ends in any", row(4094, "taken", api.TInt), row(4093, "taken", api.TAny), false, true)
}

// ring: so many heads, each the next one's parent, the last one the first's.
func ring(n int, way string) api.Graph {
	g := row(n, way, api.TInt)
	g.L[n-1] = parent(way, 0, n+1)
	return g
}

// P10.1: rounds of as many heads as may be, that mean the same, and one that differs only far away.
func TestLongRounds(t *testing.T) {
	for _, way := range ways {
		whole := ring(4094, way)
		dynTold(t, "a round: "+way, whole, way != "open", true)
		for _, m := range []int{1, 4093, 4094} {
			told(t, "rounds: "+way, whole, ring(m, way), true, true)
		}
		for _, m := range []int{4092, 4093} {
			a := ring(m, way)
			a.L[m-1] = parent(way, m, m+1) // the last one has int, in the place of the first one
			told(t, "a row and a round: "+way, a, whole, false, false)
			turned := way == "taken" && m%2 == 1
			a.L[m].Kind = api.TNone
			told(t, "a row with none and a round: "+way, a, whole, !turned, turned)
			a.L[m].Kind = api.TAny
			told(t, "a row with any and a round: "+way, a, whole, turned, !turned)
			a.L[m].Kind = api.TDyn
			told(t, "a row with dyn and a round: "+way, a, whole, true, way != "open")
		}
	}
}

// apart: a round of so many heads, in each of which there stands beside the next one an end, in all but the last one the same.
func apart(n, most, last int) api.Graph {
	g := api.Graph{L: make([]api.Head, n+2)}
	for i := range n {
		g.L[i] = api.Head{Kind: api.TRecord, Names: []string{"a", "b"}, Kids: []int{(i + 1) % n, n}}
	}
	g.L[n-1].Kids[1] = n + 1
	g.L[n].Kind, g.L[n+1].Kind = most, last
	return g
}

// P10.1: two rounds, each head of the one met with each of the other one, as many as may be: something speaks against the last pair alone, or nothing.
func TestAllPairs(t *testing.T) {
	for _, x := range [][2]int{{1, 2}, {2, 3}, {7, 8}, {7, 9}, {8, 9}, {9, 8}, {15, 17}, {63, 64}, {64, 65}, {500, 501}, {1001, 1000}, {4094, 4093}} {
		// All can be cast to dyn; where both end, and nowhere else, int meets str.
		a, b := apart(x[0], api.TStr, api.TInt), apart(x[1], api.TDyn, api.TStr)
		if alike.May(a, b) {
			t.Errorf("%d, %d: from int to str", x[0], x[1])
		}
		if a = apart(x[0], api.TStr, api.TDyn); x[0] < 4000 && !alike.May(a, b) {
			t.Errorf("%d, %d: not from dyn to str", x[0], x[1])
		}
	}
	// Of lengths with a common factor not all meet: the ends do or don't, as the one begins further on.
	for from := range 6 {
		a, b := apart(6, api.TStr, api.TInt), apart(4, api.TAny, api.TStr)
		a.Root = from
		if want := from%2 == 1; alike.May(a, b) != want {
			t.Errorf("from %d: not %v", from, want)
		}
	}
}

// P10.1: pairs that are met both turned and not, of heads that are unlike, but of which each can be cast to each.
func TestAllPairsTurned(t *testing.T) {
	ring := func(n, kind int) api.Graph {
		var g api.Graph
		for i := range n {
			next := 2 * ((i + 1) % n)
			g.L = append(g.L,
				api.Head{Kind: api.TVariant, Names: []string{"a"}, Kids: []int{2*i + 1}, Open: true},
				api.Head{Kind: api.TFun, Kids: []int{next, next}})
		}
		g.L[0].Names, g.L[0].Kids = append(g.L[0].Names, "b"), append(g.L[0].Kids, 2*n)
		g.L = append(g.L, api.Head{Kind: kind})
		return g
	}
	for _, x := range [][2]int{{1, 2}, {2, 3}, {4, 4}, {4, 6}, {7, 9}, {8, 9}, {63, 65}, {300, 301}} {
		told(t, "turned", ring(x[0], api.TAny), ring(x[1], api.TAny), true, true)
		same := x[0] == x[1]
		told(t, "turned", ring(x[0], api.TInt), ring(x[1], api.TInt), same, same)
		told(t, "turned", ring(x[0], api.TInt), ring(x[1], api.TDyn), same, same)
		told(t, "turned", ring(x[0], api.TAny), ring(x[1], api.TInt), false, false)
		told(t, "turned", ring(x[0], api.TStr), ring(x[1], api.TInt), false, false)
		a := ring(x[0], api.TAny)
		dynTold(t, "turned", a, false, false)
		for i := range a.L {
			a.L[i].Open = false
		}
		dynTold(t, "turned, none open", a, false, false)
		a.L[len(a.L)-1].Kind = api.TNone
		dynTold(t, "turned, none open, without any", a, true, true)
	}
}

// wide is a record, or variant, of so many names, its kids by turns itself and an int.
func wide(n int, kind int, open bool) api.Graph {
	h := api.Head{Kind: kind, Open: open}
	for i := range n {
		h.Names, h.Kids = append(h.Names, fmt.Sprintf("k%07d", i)), append(h.Kids, i%2)
	}
	return api.Graph{L: []api.Head{h, {Kind: api.TInt}, {Kind: api.TStr}, {Kind: api.TAny}, {Kind: api.TDyn}}}
}

// P10.1: heads of many names, one with a name less, or with another kid, wherever it stands.
func TestWide(t *testing.T) {
	const n = 255
	for _, x := range []struct {
		kind        int
		open        bool
		there, back bool // may a cast from the one with a name less to the other one be, and back?
	}{{api.TRecord, false, false, true}, {api.TVariant, false, true, true}, {api.TVariant, true, false, true}} {
		g := wide(n, x.kind, x.open)
		dynTold(t, "many names", g, !x.open, true)
		for _, at := range []int{0, 1, n / 2, n - 2, n - 1} {
			less := cloned(g)
			less.L[0].Names, less.L[0].Kids = slices.Delete(less.L[0].Names, at, at+1), slices.Delete(less.L[0].Kids, at, at+1)
			told(t, fmt.Sprint("a name less: ", at), less, g, x.there, x.back)
			other := cloned(g)
			other.L[0].Kids[at] = 2
			told(t, fmt.Sprint("another kid: ", at), other, g, false, false)
			dynTold(t, fmt.Sprint("another kid: ", at), other, !x.open, true)
			other.L[0].Kids[at] = 3
			told(t, fmt.Sprint("a kid that is any: ", at), g, other, true, false)
			dynTold(t, fmt.Sprint("a kid that is any: ", at), other, false, true)
			if x.open {
				told(t, fmt.Sprint("a name less, and any: ", at), less, other, true, true)
			}
			other.L[0].Kids[at] = 4
			told(t, fmt.Sprint("a kid that is dyn: ", at), g, other, !x.open || at%2 == 1, true)
			one := api.Graph{L: []api.Head{{Kind: x.kind, Open: x.open, Names: g.L[0].Names[at : at+1], Kids: []int{3}}, {}, {}, {Kind: api.TAny}}}
			told(t, fmt.Sprint("one name alone: ", at), one, g, false, true)
		}
	}
}

// P10.1: heads of more names than a tree has types.
func TestWidest(t *testing.T) {
	a, b := wide(70000, api.TRecord, false), wide(70000, api.TVariant, true)
	told(t, "many names, and none", a, made(0, "{"), true, false)
	told(t, "many names, and none", b, made(0, "]"), true, false)
	told(t, "many names, and one", a, made(0, "{ k0069999:1", "d"), true, false)
	told(t, "many names, and one", a, made(0, "{ k0069998:0"), true, false)
	told(t, "many names, and one", a, made(0, "{ k0069998:0 k0070000:0"), false, false)
	told(t, "many names, and one", b, made(0, "] k0000001:1", "i"), true, false)
	told(t, "many names, and one", b, made(0, "] k0000000:0 k0070000:1", "*"), true, false)
	told(t, "many names, and one", b, made(0, "[ k0000001:0 k0070000:1", "d"), false, false)
	dynTold(t, "many names", a, true, true)
	dynTold(t, "many names", b, false, true)
	b.L[0].Open = false
	dynTold(t, "many names", b, true, true)
	told(t, "many names, and one", b, made(0, "[ k0000001:1 k0070000:0", "d"), true, true)
	for _, g := range []api.Graph{a, b} {
		g.L[0].Kids[65536] = 3
		dynTold(t, "one of many kids that is any", g, false, true)
	}
}

// P10.1: more heads than may be, on either side.
func TestTooMany(t *testing.T) {
	good := round(4096, "record")
	told(t, "as many heads as may be", good, good, true, true)
	dynTold(t, "as many heads as may be", good, true, true)
	for _, n := range []int{4097, 5000, 100000} {
		g := round(n, "record")
		refused(t, "too many heads", g)
		told(t, "too many heads", g, good, false, false)
		// They are too many, whichever is the root, and however few it comes to.
		for i := range g.L {
			g.L[i].Kids[0] = i
		}
		g.Root = n - 1
		refused(t, "too many heads", g)
	}
}
