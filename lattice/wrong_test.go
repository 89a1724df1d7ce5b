package lattice_test

import (
	"math/rand"
	"regexp"
	"strings"
	"testing"

	"azimuth/api"
	"azimuth/graph"
	"azimuth/lattice"
)

const (
	most  = int(^uint(0) >> 1)
	least = -most - 1
)

func isForm(g api.Graph, e api.Errno) bool { return e == api.ErrForm && equal(g, api.Graph{}) }

// refused looks whether nothing is told of a graph that may not be: not of itself, nor with another one, on whichever side, nor in a row, in whichever place.
func refused(t *testing.T, what string, g api.Graph) {
	t.Helper()
	none, any := graph.Basic(api.TNone), graph.Basic(api.TAny)
	for _, join := range []bool{true, false} {
		for _, other := range []api.Graph{none, any, made(0, "{ a:1", "i"), g, {}} {
			asked(t, what, g, other, join, isForm)
		}
		for _, l := range [][]api.Graph{{g}, {g, none, any}, {none, g, any}, {any, none, g}, {none, {}, g}, {any, any, any, g}, {g, g, g}} {
			if x, e := lattice.All(l, join); !isForm(x, e) {
				t.Errorf("%s: All of %v, join %v: %s, %d", what, l, join, short(x), e)
			}
		}
	}
}

var (
	namePattern = regexp.MustCompile(`^[a-z_][a-z_0-9]*$`)
	wordPattern = regexp.MustCompile(`^(fun|let|rec|in|if|then|else|case|of|end|true|false|int|bool|str|float|dyn|any|none|type)$`)
)

// mayBeAnew: chapter 8's words of a graph that may be, said anew.
func mayBeAnew(g api.Graph) bool {
	if len(g.L) < 1 || len(g.L) > 4096 || g.Root < 0 || g.Root >= len(g.L) {
		return false
	}
	for _, h := range g.L {
		for _, kid := range h.Kids {
			if kid < 0 || kid >= len(g.L) {
				return false
			}
		}
		for i, name := range h.Names {
			word := wordPattern.MatchString(name)
			if !namePattern.MatchString(name) || word && h.Kind != api.TVariant || i > 0 && strings.Compare(h.Names[i-1], name) >= 0 {
				return false
			}
		}
		names, kids := len(h.Names), len(h.Kids)
		switch h.Kind {
		case api.TInt, api.TBool, api.TStr, api.TFloat, api.TDyn, api.TAny, api.TNone:
			if names+kids > 0 || h.Open {
				return false
			}
		case api.TFun:
			if names > 0 || kids != 2 || h.Open {
				return false
			}
		case api.TRecord, api.TVariant:
			if names != kids || h.Open && h.Kind == api.TRecord {
				return false
			}
		default:
			return false
		}
	}
	return true
}

// grown is a graph with a head of each kind, all of which may be; the root comes to the first ten.
func grown() api.Graph {
	return made(0,
		"{ a:1 b:2 c:3 d:4 e:5 f:6 g:7 h:8 i:9", "i", "b", "s", "f", "d", "*", "!", "> 1 0", "] a:9 in:8",
		"[ c:11", "> 9 9", "{", "i", "]")
}

// The numbers of heads of grown, to which the root comes, and doesn't.
const (
	someRecord, someInt, someAny, someFun, someVariant = 0, 1, 6, 8, 9
	farVariant, farFun, farRecord, farInt, farOpen     = 10, 11, 12, 13, 14
)

// P11.1: graphs that may not be, in each way, wherever in it it is wrong.
func TestWrongGraphs(t *testing.T) {
	told(t, "a graph of each kind of head", grown(), cloned(grown()), grown(), grown())
	head := func(change func(h *api.Head), at ...int) func(g *api.Graph) {
		return func(g *api.Graph) {
			for _, i := range at {
				change(&g.L[i])
			}
		}
	}
	kind := func(k int) func(h *api.Head) { return func(h *api.Head) { h.Kind = k } }
	kid := func(place, to int) func(h *api.Head) { return func(h *api.Head) { h.Kids[place] = to } }
	kids := func(l ...int) func(h *api.Head) { return func(h *api.Head) { h.Kids = l } }
	names := func(text string) func(h *api.Head) { return func(h *api.Head) { h.Names = strings.Fields(text) } }
	open := func(h *api.Head) { h.Open = true }
	root := func(i int) func(g *api.Graph) { return func(g *api.Graph) { g.Root = i } }
	n := len(grown().L)
	for what, change := range map[string]func(g *api.Graph){
		"no heads":                      func(g *api.Graph) { g.L = nil },
		"an empty list":                 func(g *api.Graph) { g.L = []api.Head{} },
		"the root below 0":              root(-1),
		"the root far below":            root(least),
		"the root just behind the last": root(n),
		"the root far behind":           root(most),
		"a kind below":                  head(kind(-1), someInt),
		"a kind far below":              head(kind(least), someInt),
		"a kind of TAlias":              head(kind(api.TAlias), someInt),
		"a kind above":                  head(kind(api.TKinds), someInt),
		"a kind far above":              head(kind(most), someInt),
		"a kind that would wrap":        head(kind(256), someInt),
		"a far kind below":              head(kind(-1), farInt),
		"a far kind above":              head(kind(api.TAlias), farInt),
		"a kid below 0":                 head(kid(0, -1), someFun),
		"a kid far below":               head(kid(1, least), someFun),
		"a kid just behind the last":    head(kid(1, n), someFun),
		"a kid far behind":              head(kid(0, most), someFun),
		"a record's kid below 0":        head(kid(8, -1), someRecord),
		"a record's kid behind":         head(kid(0, n), someRecord),
		"a variant's kid below 0":       head(kid(0, -1), someVariant),
		"a variant's kid behind":        head(kid(1, n), someVariant),
		"a far kid below 0":             head(kid(0, -1), farFun),
		"a far kid behind":              head(kid(1, n), farFun),
		"a far variant's kid behind":    head(kid(0, n), farVariant),
		"a TFun without kids":           head(kids(), someFun),
		"a TFun of one":                 head(kids(1), someFun),
		"a TFun of three":               head(kids(1, 1, 1), someFun),
		"a TFun of four":                head(kids(1, 1, 1, 1), someFun),
		"a far TFun of one":             head(kids(1), farFun),
		"a far TFun of three":           head(kids(1, 1, 1), farFun),
		"a TFun with a name":            head(names("a"), someFun),
		"a TFun with two names":         head(names("a b"), someFun, farFun),
		"a TFun that is open":           head(open, someFun),
		"a far TFun that is open":       head(open, farFun),
		"a TInt with a kid":             head(kids(1), someInt),
		"a TInt with two kids":          head(kids(1, 1), farInt),
		"a TInt with a name":            head(names("a"), someInt),
		"a TInt that is open":           head(open, someInt),
		"a far TInt that is open":       head(open, farInt),
		"a TInt with a field": head(func(h *api.Head) {
			h.Names, h.Kids = []string{"a"}, []int{1}
		}, someInt),
		"a TAny with a kid":              head(kids(0), someAny),
		"a TAny with a name":             head(names("a"), someAny),
		"a TAny that is open":            head(open, someAny),
		"a record with too few kids":     head(kids(1, 2, 3), someRecord),
		"a record with too many kids":    head(kids(1), farRecord),
		"a record with too many names":   head(names("a"), farRecord),
		"a record with too few names":    head(names("a b c d e f g h"), someRecord),
		"a record without names":         head(names(""), someRecord),
		"a record with one name more":    head(names("a b c d e f g h i j"), someRecord),
		"a record that is open":          head(open, someRecord),
		"a far record that is open":      head(open, farRecord),
		"a variant with too few kids":    head(kids(1), someVariant),
		"a variant without kids":         head(kids(), someVariant),
		"a variant with too many kids":   head(kids(1, 2, 3), someVariant),
		"a variant with too few names":   head(names("a"), someVariant),
		"a variant with too many names":  head(names("a b c"), someVariant),
		"a far variant without names":    head(names(""), farVariant),
		"a far variant with a kid":       head(kids(1), farOpen),
		"a far variant with a name":      head(names("a"), farOpen),
		"a variant's names fall":         head(names("in a"), someVariant),
		"a variant's name twice":         head(names("in in"), someVariant),
		"a variant's names fall, by one": head(names("ab a"), someVariant),
		"a record's names fall":          head(names("b a c d e f g h i"), someRecord),
		"a record's last names fall":     head(names("a b c d e f g i h"), someRecord),
		"a record's first name twice":    head(names("a a c d e f g h i"), someRecord),
		"a record's last name twice":     head(names("a b c d e f g h h"), someRecord),
		"a record's name far behind":     head(names("b c d e f g h i a"), someRecord),
		"a far variant's name twice": head(func(h *api.Head) {
			h.Names, h.Kids = []string{"a", "a"}, []int{1, 1}
		}, farOpen),
	} {
		g := grown()
		change(&g)
		refused(t, what, g)
		if mayBeAnew(g) {
			t.Errorf("%s: the test's own words are wrong", what)
		}
	}
}

// P11.1: each of the kinds asks what it asks, and nothing else: all heads with few names and kids.
func TestAsked(t *testing.T) {
	may := 0
	for kind := -1; kind <= api.TKinds; kind++ {
		for _, names := range []string{"", "a", "b", "a b", "b a", "a a", "a b c", "a c b", "let", "A", "a let"} {
			for kids := range 4 {
				for _, open := range []bool{false, true} {
					h := api.Head{Kind: kind, Names: strings.Fields(names), Kids: []int{1, 0, 1, 0}[:kids], Open: open}
					for _, g := range []api.Graph{
						{L: []api.Head{h, {Kind: api.TInt}}},
						{L: []api.Head{h, {Kind: api.TNone}}, Root: 1},
						{L: []api.Head{{Kind: api.TFun, Kids: []int{1, 1}}, h}},
					} {
						if !mayBeAnew(g) {
							refused(t, "a head", g)
							continue
						}
						may++
						asAnew(t, "a head", g, made(0, "[ a:1 b:0", "i"))
						asAnew(t, "a head", g, made(0, "> 0 0"))
					}
				}
			}
		}
	}
	if may < 50 {
		t.Error(may)
	}
}

// P11.1: a graph that is wrong far from what would be told: at its root, or where the root doesn't come.
func TestWrongFarAway(t *testing.T) {
	for _, kind := range []string{"!", "*", "i", "d", "{", "[", "]", "> 0 0"} {
		told(t, kind, made(0, kind), made(0, kind), made(0, kind), made(0, kind))
		for _, far := range []string{"{ a:9", "> 0", "i 0", "] b:0 a:0", "{ let:0", "[ a:-1"} {
			refused(t, "a head that the root doesn't come to", made(0, kind, far))
			refused(t, "a head ahead of the root", made(1, far, kind))
			refused(t, "a head behind others", made(0, "{ a:1 b:2", kind, "[ a:3", far))
		}
	}
}

// P11.1: graphs that are changed by chance, of which some may not be.
func TestWrongByChance(t *testing.T) {
	may := 0
	for i := range 3000 {
		chance := rand.New(rand.NewSource(int64(i)))
		g := cloned(anyGraph(chance))
		number := func() int { return chance.Intn(len(g.L)+2) - 1 }
		h := &g.L[chance.Intn(len(g.L))]
		switch chance.Intn(7) {
		case 0:
			h.Kind = chance.Intn(api.TKinds+2) - 1
		case 1:
			h.Kids = append(h.Kids, number())
		case 2:
			if len(h.Kids) > 0 {
				h.Kids[chance.Intn(len(h.Kids))] = number()
			}
		case 3:
			h.Names = append(h.Names, []string{"a", "b", "c", "ac"}[chance.Intn(4)])
		case 4:
			if len(h.Names) > 0 {
				h.Names[chance.Intn(len(h.Names))] = []string{"a", "b", "aa", "ab"}[chance.Intn(4)]
			}
		case 5:
			h.Open = !h.Open
		case 6:
			g.Root = number()
		}
		if !mayBeAnew(g) {
			refused(t, "changed", g)
			continue
		}
		may++
		asAnew(t, "changed", g, anyGraph(chance))
	}
	if may < 500 || may > 2500 {
		t.Error(may)
	}
}
