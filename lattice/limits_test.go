package lattice_test

import (
	"fmt"
	"slices"
	"testing"

	"azimuth/api"
	"azimuth/graph"
	"azimuth/lattice"
)

// line: so many heads, each but the last one the next one's parent.
func line(n int, parent func(kid int) api.Head, end int) api.Graph {
	g := api.Graph{L: make([]api.Head, n)}
	for i := range n - 1 {
		g.L[i] = parent(i + 1)
	}
	g.L[n-1] = api.Head{Kind: end}
	return g
}

func record(kid int) api.Head {
	return api.Head{Kind: api.TRecord, Names: []string{"a"}, Kids: []int{kid}}
}

func closed(kid int) api.Head {
	return api.Head{Kind: api.TVariant, Names: []string{"a"}, Kids: []int{kid}}
}

func open(kid int) api.Head {
	return api.Head{Kind: api.TVariant, Names: []string{"a"}, Kids: []int{kid}, Open: true}
}

func fun(kid int) api.Head { return api.Head{Kind: api.TFun, Kids: []int{kid, kid}} }

var parents = map[string]func(kid int) api.Head{"record": record, "closed": closed, "open": open, "fun": fun}

// headed puts a head ahead of a graph's others, as the parent of its root.
func headed(h api.Head, g api.Graph) api.Graph {
	x := api.Graph{L: []api.Head{h}}
	for _, h := range cloned(g).L {
		for k := range h.Kids {
			h.Kids[k]++
		}
		x.L = append(x.L, h)
	}
	for k := range h.Kids {
		h.Kids[k] = g.Root + 1
	}
	return x
}

func named(kind int, open bool, name string) api.Head {
	return api.Head{Kind: kind, Names: []string{name}, Kids: []int{0}, Open: open}
}

// just looks whether a join, or a meet, has so many heads ahead of being made normal, and whether it is told.
func just(t *testing.T, what string, a, b api.Graph, join bool, heads int) {
	t.Helper()
	n, met := asAnew(t, what, a, b)
	if !join {
		n = met
	}
	if n != heads {
		t.Errorf("%s, join %v: the test's own graphs are wrong: %d heads, not %d", what, join, n, heads)
	}
}

// P11.1: what stands in one type alone: the answer has one head more than both, and both are as long as may be, or one of them is longer by one.
func TestAlone(t *testing.T) {
	for _, x := range []struct {
		what      string
		one, that api.Head
		join      bool
	}{
		{"records", named(api.TRecord, false, "a"), named(api.TRecord, false, "b"), false},
		{"closed", named(api.TVariant, false, "a"), named(api.TVariant, false, "b"), true},
		{"open", named(api.TVariant, true, "a"), named(api.TVariant, true, "b"), false},
	} {
		for what, parent := range map[string]func(kid int) api.Head{"record": record, "fun": fun} {
			for _, n := range []int{2047, 4093} {
				a, b := headed(x.one, line(n, parent, api.TInt)), headed(x.that, line(4095-n, parent, api.TStr))
				just(t, fmt.Sprint(x.what, ", ", what, ", ", n), a, b, x.join, api.MaxStates)
				more := headed(x.one, line(n+1, parent, api.TInt))
				just(t, fmt.Sprint(x.what, ", ", what, ", one more, ", n), more, b, x.join, api.MaxStates+1)
				if n != 2047 {
					continue
				}
				// They end alike, so that they have fewer heads when they are made normal.
				b.L[len(b.L)-1].Kind = api.TInt
				just(t, fmt.Sprint(x.what, ", alike, ", what, ", ", n), a, b, x.join, api.MaxStates)
				just(t, fmt.Sprint(x.what, ", alike, ", what, ", one more, ", n), more, b, x.join, api.MaxStates+1)
			}
		}
	}
}

// P11.1: of a closed variant and an open one the names of just one stay, its heads with them.
func TestOneStays(t *testing.T) {
	for _, n := range []int{2, 4094, 4095} {
		a := headed(named(api.TVariant, false, "a"), line(n, record, api.TInt))
		b := headed(named(api.TVariant, true, "b"), line(4095, record, api.TStr))
		just(t, "join", a, b, true, 4096)
		just(t, "meet", a, b, false, n+1)
		asked(t, "join", a, b, true, func(g api.Graph, e api.Errno) bool { return e == api.OK && equal(g, b) })
		asked(t, "meet", a, b, false, func(g api.Graph, e api.Errno) bool { return e == api.OK && equal(g, a) })
	}
}

// P11.1: as many pairs of heads as may be, in rounds of lengths without a common factor, with some heads ahead of them.
func TestAsManyPairs(t *testing.T) {
	for _, x := range []struct{ n, m, ahead int }{{63, 65, 1}, {1, 4093, 3}, {4, 1023, 4}, {2, 2047, 2}, {64, 63, 64}} {
		for what, h := range map[string]api.Head{"records": named(api.TRecord, false, "a"), "closed": named(api.TVariant, false, "a")} {
			a, b := marked(x.n, h.Kind, false), marked(x.m, h.Kind, false)
			// What both have is kept in joins of records, and in meets of variants that aren't open.
			join := h.Kind == api.TRecord
			just(t, what, a, b, join, x.n*x.m)
			for range x.ahead {
				a, b = headed(cloned(api.Graph{L: []api.Head{h}}).L[0], a), headed(cloned(api.Graph{L: []api.Head{h}}).L[0], b)
			}
			just(t, what, a, b, join, api.MaxStates)
			asked(t, what, a, b, join, func(g api.Graph, e api.Errno) bool { return e == api.OK && len(g.L) == api.MaxStates })
			if len(a.L) < api.MaxStates && len(b.L) < api.MaxStates {
				a, b = headed(cloned(api.Graph{L: []api.Head{h}}).L[0], a), headed(cloned(api.Graph{L: []api.Head{h}}).L[0], b)
				just(t, what, a, b, join, api.MaxStates+1)
			}
		}
	}
	just(t, "far more", marked(64, api.TRecord, false), marked(65, api.TRecord, false), true, 64*65)
	a, b := marked(4096, api.TRecord, false), marked(4095, api.TRecord, false)
	for _, join := range []bool{true, false} {
		asked(t, "most", a, b, join, tooMany)
	}
}

// P11.1: a pair that is wanted joined and met counts twice.
func TestTwice(t *testing.T) {
	round := func(n int) api.Graph {
		g := api.Graph{L: make([]api.Head, n)}
		for i := range n {
			g.L[i] = fun((i + 1) % n)
		}
		return g
	}
	for _, join := range []bool{true, false} {
		just(t, "rounds", round(2048), round(2048), join, 4096)
		just(t, "rounds", round(2049), round(2049), join, 4098)
		just(t, "rounds", round(32), round(63), join, 4032)
		just(t, "rounds", round(45), round(46), join, 4140)
		just(t, "lines", line(2048, fun, api.TInt), line(2048, fun, api.TStr), join, 4095)
		just(t, "lines", line(2049, fun, api.TInt), line(2049, fun, api.TStr), join, 4097)
		just(t, "a head ahead of lines", headed(record(0), line(2048, fun, api.TInt)), headed(record(0), line(2048, fun, api.TDyn)), join, 4096)
		just(t, "a head ahead of lines", headed(record(0), headed(record(0), line(2048, fun, api.TInt))), headed(record(0), headed(record(0), line(2048, fun, api.TDyn))), join, 4097)
	}
}

// P11.1: graphs of as many heads as may be: with themselves, with none, with any, and with another kind.
func TestWhole(t *testing.T) {
	whole := map[string]api.Graph{"marked": marked(4096, api.TRecord, false), "open": marked(4096, api.TVariant, true)}
	for what, parent := range parents {
		if what != "fun" {
			whole[what] = line(4096, parent, api.TStr)
		}
	}
	none, any := graph.Basic(api.TNone), graph.Basic(api.TAny)
	for what, g := range whole {
		told(t, what, g, g, g, g)
		told(t, what, g, none, g, none)
		told(t, what, g, any, any, g)
		told(t, what, g, graph.Basic(api.TDyn), any, none)
		for _, join := range []bool{true, false} {
			if x, e := lattice.All([]api.Graph{g}, join); e != api.OK || !equal(x, g) {
				t.Errorf("%s: All of one: %s, %d", what, short(x), e)
			}
			if x, e := lattice.All([]api.Graph{g, g, g}, join); e != api.OK || !equal(x, g) {
				t.Errorf("%s: All of three: %s, %d", what, short(x), e)
			}
		}
	}
	// Of functions that take and tell the next one each is wanted joined and met.
	functions := line(4096, fun, api.TStr)
	told(t, "functions", functions, none, functions, none)
	told(t, "functions", functions, any, any, functions)
	for _, join := range []bool{true, false} {
		asked(t, "functions", functions, functions, join, tooMany)
	}
}

// P11.1: graphs that aren't normal count by the heads that they have, as far as the root comes.
func TestOthersCount(t *testing.T) {
	for _, join := range []bool{true, false} {
		just(t, "rounds of one meaning", round(4096, "record"), round(2048, "record"), join, 4096)
		just(t, "rounds of one meaning", round(64, "closed"), round(63, "closed"), join, 4032)
		just(t, "rounds of one meaning", round(64, "closed"), round(65, "closed"), join, 4160)
		a, b := round(64, "closed"), round(63, "closed")
		for len(a.L) < 4096 {
			a.L = append(a.L, api.Head{Kind: api.TRecord, Names: []string{"a"}, Kids: []int{len(a.L)}})
		}
		just(t, "with heads beside", a, b, join, 4032)
	}
	star := api.Graph{L: []api.Head{{Kind: api.TRecord}}}
	for i := range 4095 {
		star.L[0].Names, star.L[0].Kids = append(star.L[0].Names, fmt.Sprintf("k%04d", i)), append(star.L[0].Kids, i+1)
		star.L = append(star.L, api.Head{Kind: api.TInt})
	}
	just(t, "as many ints", star, made(0, "{"), false, 4096)
	just(t, "as many ints", star, star, false, 4096)
	just(t, "one more", star, made(0, "{ z:1", "i"), false, 4097)
	just(t, "one of two", star, made(0, "{ k0000:1 z:0", "i"), false, 4098)
}

// P11.1: All from the left: what would be too many on the way is told, also where less would come of it in the end; what is made normal on the way counts by its own heads.
func TestAllOnTheWay(t *testing.T) {
	a, b := marked(64, api.TRecord, false), marked(65, api.TRecord, false)
	less, any := made(0, "{"), graph.Basic(api.TAny)
	for _, x := range []struct {
		what string
		l    []api.Graph
		e    api.Errno
	}{
		{"two", []api.Graph{a, b}, api.ErrMany},
		{"two, any", []api.Graph{a, b, any}, api.ErrMany},
		{"two, less", []api.Graph{a, b, less}, api.ErrMany},
		{"two, none, two", []api.Graph{a, b, graph.Basic(api.TNone), a, b}, api.ErrMany},
		{"any, two", []api.Graph{any, a, b}, api.OK},
		{"one, any, one", []api.Graph{a, any, b}, api.OK},
		{"less, two", []api.Graph{less, a, b}, api.OK},
		{"one, less, one", []api.Graph{b, less, a}, api.OK},
		{"one twice, the other one", []api.Graph{b, b, b, a, any}, api.ErrMany},
		{"two at the end", []api.Graph{a, a, a, b}, api.ErrMany},
	} {
		g, e := lattice.All(x.l, true)
		if e != x.e || e != api.OK && !equal(g, api.Graph{}) || e == api.OK && !equal(g, any) && !equal(g, less) {
			t.Errorf("%s: %s, %d", x.what, short(g), e)
		}
	}
	variants := []api.Graph{marked(64, api.TVariant, false), marked(65, api.TVariant, false)}
	if g, e := lattice.All(append(variants, graph.Basic(api.TNone)), false); !tooMany(g, e) {
		t.Errorf("meets: %s, %d", short(g), e)
	}
	if g, e := lattice.All(append([]api.Graph{graph.Basic(api.TNone)}, variants...), false); e != api.OK || !equal(g, graph.Basic(api.TNone)) {
		t.Errorf("meets: %s, %d", short(g), e)
	}
	for _, join := range []bool{true, false} {
		l := []api.Graph{round(63, "fun"), round(32, "fun"), round(65, "fun"), round(2048, "fun"), round(31, "fun")}
		if g, e := lattice.All(l, join); e != api.OK || !equal(g, made(0, "> 0 0")) {
			t.Errorf("made normal on the way, join %v: %s, %d", join, short(g), e)
		}
	}
}

// P11.1: that one may not be is told ahead of what would be too many, wherever it stands in a row.
func TestErrorsOrder(t *testing.T) {
	a, b := marked(64, api.TRecord, false), marked(65, api.TRecord, false)
	great := marked(4097, api.TRecord, false)
	for at := range 5 {
		for _, wrong := range []api.Graph{{}, made(0, "> 0"), made(1, "i"), great} {
			l := slices.Insert([]api.Graph{a, b, a, b}, at, wrong)
			for _, join := range []bool{true, false} {
				if g, e := lattice.All(l, join); e != api.ErrForm || !equal(g, api.Graph{}) {
					t.Errorf("%d, join %v: %s, %d", at, join, short(g), e)
				}
			}
		}
	}
	for _, join := range []bool{true, false} {
		asked(t, "too many heads of one", great, a, join, func(g api.Graph, e api.Errno) bool { return e == api.ErrForm && equal(g, api.Graph{}) })
	}
}

// wide is a record, or variant, of so many names from one on, its kids by turns itself and an int.
func wide(from, n int, kind int, open bool) api.Graph {
	h := api.Head{Kind: kind, Open: open}
	for i := range n {
		h.Names, h.Kids = append(h.Names, fmt.Sprintf("k%07d", from+i)), append(h.Kids, i%2)
	}
	return api.Graph{L: []api.Head{h, {Kind: api.TInt}}}
}

// P11.1: heads of more names than a tree has types: with themselves, with no name, with one, and with as many others.
func TestWidest(t *testing.T) {
	const n = 70000
	look := func(what string, a, b, join, meet api.Graph) {
		t.Helper()
		if g, e := lattice.Join(a, b); e != api.OK || !equal(g, join) {
			t.Errorf("%s: Join: %s, %d", what, short(g), e)
		}
		if g, e := lattice.Meet(b, a); e != api.OK || !equal(g, meet) {
			t.Errorf("%s: Meet: %s, %d", what, short(g), e)
		}
	}
	for _, open := range []bool{false, true} {
		kind := api.TRecord
		if open {
			kind = api.TVariant
		}
		a, both := wide(0, n, kind, open), wide(0, 2*n, kind, open)
		empty := api.Graph{L: []api.Head{{Kind: kind, Open: open}}}
		last := api.Graph{L: []api.Head{{Kind: kind, Open: open, Names: a.L[0].Names[n-1:], Kids: []int{1}}, {Kind: api.TInt}}}
		look("itself", a, a, a, a)
		look("no name", a, empty, empty, a)
		look("a name", a, last, last, a)
		// Kids of those that are apart are ints, as heads that are their own kids would have other names.
		more := api.Graph{L: []api.Head{{Kind: kind, Open: open, Names: both.L[0].Names[n:], Kids: slices.Repeat([]int{1}, n)}, {Kind: api.TInt}}}
		a.L[0].Kids, both.L[0].Kids = slices.Repeat([]int{1}, n), slices.Repeat([]int{1}, 2*n)
		look("apart", a, more, empty, both)
	}
}

// P11.1: a wide head against a round of many, each of which has a few of its names.
func TestWideAgainstMany(t *testing.T) {
	wide := wide(0, 20000, api.TRecord, false)
	for k := range wide.L[0].Kids {
		wide.L[0].Kids[k] = 0
	}
	g := api.Graph{L: make([]api.Head, 4096)}
	for i := range g.L {
		g.L[i] = api.Head{Kind: api.TRecord, Names: []string{"a", fmt.Sprintf("k%07d", i), "k0019999"}, Kids: []int{0, (i + 1) % 4096, (i + 7) % 4096}}
	}
	join := cloned(g)
	for i, h := range join.L {
		join.L[i].Names, join.L[i].Kids = h.Names[1:], h.Kids[1:]
	}
	want, _ := graph.Normal(join)
	asked(t, "join", wide, g, true, func(g api.Graph, e api.Errno) bool { return e == api.OK && equal(g, want) })
}
