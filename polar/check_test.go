package polar_test

import (
	"fmt"
	"slices"
	"strings"
	"testing"

	"azimuth/api"
	"azimuth/polar"
)

// grown is an automaton with heads of each kind, of both signs, all of which may be; the root comes to the first six states.
func grown() polar.Auto {
	return auto("+'0|'3|i|b|s|f|d|>1,2|{a:3,b:2|[in:2,of:6 -'1|'2|i|b|s|f|d|>2,1|{a:1,b:5|]a:1,in:4 +* + -! - +'7 ->6,5 +]a:2 -[a:1 ->0,1 +{a:0,b:6,c:11")
}

// The numbers of states of grown, and where their heads stand.
const (
	plus, minus, allPlus, nonePlus, allMinus, noneMinus, varPlus = 0, 1, 2, 3, 4, 5, 6
	farMinus, farPlus, farRecord                                 = 7, 8, 11

	intAt, boolAt, dynAt, funAt, recordAt, variantAt = 0, 1, 4, 5, 6, 7
)

func TestGrown(t *testing.T) {
	x := grown()
	if !asked(t, "grown", x) {
		t.Fatal(checkAnew(x))
	}
	if l := polar.Reach(x); !slices.Equal(l, []int{0, 1, 2, 3, 4, 5, 6}) {
		t.Error(l)
	}
	if s := text(x, func(v int) string { return fmt.Sprint(v) }); !equal(auto(s), x) {
		t.Error("the test's own texts are wrong", s)
	}
}

// P15.1, R3: automata that may not be, in each way, wherever it is wrong: ErrForm, and the root comes to nothing.
func TestWrongAutomata(t *testing.T) {
	head := func(s, at int, change func(h *api.Head)) func(x *polar.Auto) {
		return func(x *polar.Auto) { change(&x.L[s].Heads[at]) }
	}
	kid := func(s, at, k, to int) func(x *polar.Auto) {
		return head(s, at, func(h *api.Head) { h.Kids[k] = to })
	}
	kids := func(s, at int, l ...int) func(x *polar.Auto) {
		return head(s, at, func(h *api.Head) { h.Kids = l })
	}
	names := func(s, at int, text string) func(x *polar.Auto) {
		return head(s, at, func(h *api.Head) { h.Names = strings.Fields(text) })
	}
	kind := func(s, at, to int) func(x *polar.Auto) {
		return head(s, at, func(h *api.Head) { h.Kind = to })
	}
	open := func(s, at int) func(x *polar.Auto) {
		return head(s, at, func(h *api.Head) { h.Open = true })
	}
	state := func(s int, text string) func(x *polar.Auto) {
		return func(x *polar.Auto) { x.L[s] = auto(text).L[0] }
	}
	vars := func(s int, l ...int) func(x *polar.Auto) {
		return func(x *polar.Auto) { x.L[s].Vars = l }
	}
	lone := func(s, kind int) func(x *polar.Auto) {
		return func(x *polar.Auto) { x.L[s].Heads = []api.Head{{Kind: kind}} }
	}
	root := func(i int) func(x *polar.Auto) { return func(x *polar.Auto) { x.Root = i } }
	n := len(grown().L)
	for what, change := range map[string]func(x *polar.Auto){
		"no states":                     func(x *polar.Auto) { x.L = nil },
		"an empty list":                 func(x *polar.Auto) { x.L = []polar.State{} },
		"a root of minus":               root(minus),
		"another root of minus":         root(noneMinus),
		"a far root of minus":           root(farMinus),
		"a root below 0":                root(-1),
		"a root far below":              root(least),
		"a root just behind":            root(n),
		"a root far behind":             root(most),
		"a root that would wrap":        root(1 << 32),
		"the first root of minus":       func(x *polar.Auto) { x.L[plus].Plus = false },
		"a kid below 0":                 kid(plus, recordAt, 0, -1),
		"a kid far below":               kid(plus, recordAt, 1, least),
		"a kid just behind":             kid(plus, recordAt, 1, n),
		"a kid far behind":              kid(minus, recordAt, 0, most),
		"a taken kid below 0":           kid(plus, funAt, 0, -1),
		"a taken kid behind":            kid(minus, funAt, 0, n),
		"a told kid below 0":            kid(minus, funAt, 1, -1),
		"a told kid behind":             kid(plus, funAt, 1, n),
		"a variant's kid below 0":       kid(minus, variantAt, 1, -1),
		"a variant's kid behind":        kid(plus, variantAt, 0, n),
		"a far kid behind":              kid(farRecord, 0, 2, n),
		"a far taken kid below 0":       kid(farMinus, 0, 0, -1),
		"a taken kid of plus":           kid(plus, funAt, 0, allPlus),
		"a told kid of minus":           kid(plus, funAt, 1, noneMinus),
		"both of them":                  kids(plus, funAt, allPlus, noneMinus),
		"a taken kid of minus":          kid(minus, funAt, 0, allMinus),
		"a told kid of plus":            kid(minus, funAt, 1, nonePlus),
		"a record's kid of minus":       kid(plus, recordAt, 0, noneMinus),
		"a record's last kid of minus":  kid(plus, recordAt, 1, noneMinus),
		"a record's kid of plus":        kid(minus, recordAt, 0, allPlus),
		"a record's last kid of plus":   kid(minus, recordAt, 1, allPlus),
		"a variant's kid of minus":      kid(plus, variantAt, 0, minus),
		"a variant's kid of plus":       kid(minus, variantAt, 0, plus),
		"a far taken kid of minus":      kid(farMinus, 0, 0, noneMinus),
		"a far told kid of plus":        kid(farMinus, 0, 1, varPlus),
		"a far record's kid of minus":   kid(farRecord, 0, 2, minus),
		"a far variant's kid of minus":  kid(farPlus, 0, 0, minus),
		"a state that changed its sign": func(x *polar.Auto) { x.L[varPlus].Plus = false },
		"a kind twice":                  kind(plus, boolAt, api.TInt),
		"a kind twice, of minus":        kind(minus, boolAt, api.TInt),
		"the last kind twice":           state(plus, "+{|[|["),
		"functions twice":               state(plus, "+>1,2|>1,2"),
		"records twice":                 state(varPlus, "+{|{a:2"),
		"variants twice":                state(varPlus, "+[|]"),
		"kinds that fall":               state(plus, "+b|i"),
		"kinds that fall behind":        state(plus, "+i|d|[|{"),
		"kinds that fall, of minus":     state(minus, "-s|b|f"),
		"kinds that fall, far":          state(farPlus, "+[|>1,2"),
		"a variable twice":              vars(plus, 3, 3),
		"a variable twice, of minus":    vars(minus, 1, 1),
		"a variable twice behind":       vars(plus, 0, 3, 4, 4),
		"variables that fall":           vars(plus, 3, 0),
		"variables that fall behind":    vars(plus, 0, 3, 2),
		"variables that fall, far":      vars(farMinus, 9, 8),
		"a variable below 0":            vars(varPlus, -1),
		"variables from below 0":        vars(plus, -1, 0, 3),
		"a variable far below":          vars(minus, least, 5),
		"a far variable below 0":        vars(farMinus, -1),
		"none of plus":                  state(nonePlus, "+!"),
		"none of plus beside a head":    state(plus, "+i|!"),
		"none of plus beside variables": state(plus, "+'0|!"),
		"none of plus beside any":       state(plus, "+*|!"),
		"far none of plus":              state(farPlus, "+!"),
		"any of minus":                  state(noneMinus, "-*"),
		"any of minus beside a head":    state(minus, "-i|*"),
		"any of minus beside variables": state(minus, "-'0|*"),
		"any of minus beside none":      state(minus, "-*|!"),
		"any of plus beside a head":     state(allPlus, "+i|*"),
		"any of plus ahead of a head":   state(allPlus, "+*|{"),
		"any of plus beside a variable": state(allPlus, "+'0|*"),
		"any of plus beside all":        state(allPlus, "+'0|i|*|{"),
		"none of minus beside a head":   state(allMinus, "-i|!"),
		"none of minus ahead of a head": state(allMinus, "-!|]"),
		"none of minus and a variable":  state(allMinus, "-'0|!"),
		"a kind below":                  kind(plus, intAt, -1),
		"a kind far below":              kind(plus, intAt, least),
		"a TAlias":                      lone(varPlus, api.TAlias),
		"a TAlias of minus":             lone(noneMinus, api.TAlias),
		"a kind above":                  lone(varPlus, api.TKinds),
		"a kind far above":              lone(nonePlus, most),
		"a kind below by itself":        lone(farPlus, -1),
		"a kind that would wrap":        lone(farPlus, 256),
	} {
		x := grown()
		change(&x)
		wrongAuto(t, what, x)
	}
	for what, change := range map[string]func(x *polar.Auto){
		"a function without kids":      kids(plus, funAt),
		"a function of one":            kids(plus, funAt, minus),
		"a function of three":          kids(plus, funAt, minus, plus, plus),
		"a far function of one":        kids(farMinus, 0, plus),
		"a function with a name":       names(plus, funAt, "a"),
		"a function with two names":    names(plus, funAt, "a b"),
		"a function that is open":      open(plus, funAt),
		"an int with a kid":            kids(plus, intAt, plus),
		"an int with a name":           names(plus, intAt, "a"),
		"an int that is open":          open(minus, intAt),
		"a dyn with a kid":             kids(minus, dynAt, minus),
		"any with a kid":               kids(allPlus, 0, plus),
		"any with a name":              names(allPlus, 0, "a"),
		"any that is open":             open(allPlus, 0),
		"none with a kid":              kids(allMinus, 0, minus),
		"none that is open":            open(allMinus, 0),
		"a record with too few kids":   kids(plus, recordAt, plus),
		"a record with too many kids":  kids(plus, recordAt, plus, plus, plus),
		"a record without kids":        kids(plus, recordAt),
		"a record with too few names":  names(minus, recordAt, "a"),
		"a record with too many names": names(minus, recordAt, "a b c"),
		"a record that is open":        open(plus, recordAt),
		"a record's names fall":        names(plus, recordAt, "b a"),
		"a record's name twice":        names(plus, recordAt, "a a"),
		"a far record's names fall":    names(farRecord, 0, "a c b"),
		"a record's name that is none": names(plus, recordAt, "a B"),
		"a record's name is a word":    names(plus, recordAt, "a let"),
		"a record's empty name":        head(plus, recordAt, func(h *api.Head) { h.Names[0] = "" }),
		"a variant with too few kids":  kids(minus, variantAt, minus),
		"a variant with too many kids": kids(farPlus, 0, plus, plus),
		"a variant without names":      names(plus, variantAt, ""),
		"a variant's names fall":       names(plus, variantAt, "of in"),
		"a variant's name twice":       names(plus, variantAt, "in in"),
		"a variant's name is a sign":   names(plus, variantAt, "#in of"),
	} {
		x := grown()
		change(&x)
		wrongAuto(t, what, x)
	}
}

// wrongAuto looks whether an automaton may not be, and nothing is told of it.
func wrongAuto(t *testing.T, what string, x polar.Auto) {
	t.Helper()
	if checkAnew(x) == "" {
		t.Fatalf("%s: the test's own words are wrong", what)
	}
	if e := polar.Check(x); e != api.ErrForm {
		t.Errorf("%s: Check: %d", what, e)
	}
	if l := polar.Reach(x); len(l) > 0 {
		t.Errorf("%s: Reach: %v", what, l)
	}
}

// P15.1: automata that may be, though each is near one that may not.
func TestAutomataThatMayBe(t *testing.T) {
	for _, s := range []string{
		"+", "+*", "+'0", "+'0|'1|'2", "+'9223372036854775807", "+i|b|s|f|d", "+i", "+d|{", "+'5|]",
		"+>1,0 -", "+>1,0 -!", "+>1,0 -'0", "+>1,0 -'0|i", "+>1,0 ->0,1", "+{a:0", "+[let:0", "+]let:0,rec:0", "+{_:0,a:0,a0:0",
		"+ -", "+ -! -", "+ +*", "+i -{a:1,b:1", "+ ->0,1 ->0,3 -",
	} {
		if x := auto(s); !asked(t, s, x) {
			t.Errorf("%s: %s", s, checkAnew(x))
		}
	}
	// Any state of plus may be the root.
	for root := range grown().L {
		x := grown()
		x.Root = root
		if is := asked(t, "another root", x); is != x.L[root].Plus {
			t.Error(root, is)
		}
	}
}

// P15.1: of no states, of as many as may be, and of one more.
func TestManyStates(t *testing.T) {
	for _, n := range []int{1, 2, 4095, 4096, 4097, 5000, 8192} {
		for _, root := range []int{0, n - 1, n / 2, n, -1, 4095, 4096} {
			x := polar.Auto{Root: root}
			for i := range n {
				x.L = append(x.L, polar.State{Plus: true, Heads: []api.Head{{Kind: api.TRecord, Names: []string{"a"}, Kids: []int{max(i-1, 0)}}}})
			}
			may := n <= 4096 && root >= 0 && root < n
			want := api.OK
			if !may {
				want = api.ErrForm
			}
			if e := polar.Check(x); e != want {
				t.Errorf("%d states, root %d: %d", n, root, e)
			}
			l := polar.Reach(x)
			if comes := len(l); may && comes != root+1 || !may && comes > 0 {
				t.Errorf("%d states, root %d: it comes to %d", n, root, comes)
			}
			for i := range l {
				if l[i] != i {
					t.Fatal(n, root, i, l[i])
				}
			}
		}
	}
	// The state that is wrong is the last one of as many as may be.
	for _, last := range []string{"+'-1", "+!", "-*", "+b|i", "+>0,0"} {
		x := polar.Auto{L: slices.Repeat(auto("+").L, 4095)}
		x.L = append(x.L, auto(last).L...)
		if e := polar.Check(x); e != api.ErrForm {
			t.Error(last, e)
		}
	}
}

// P15.1: each kind asks what it asks, and nothing else: all heads with few names and kids, of both signs.
func TestAsked(t *testing.T) {
	for kind := -1; kind <= api.TKinds; kind++ {
		for _, names := range []string{"", "a", "b", "a b", "b a", "a a", "a b c", "a c b", "a let", "a B", "a #b"} {
			for kids := range 1 << 4 {
				for _, open := range []bool{false, true} {
					for _, sign := range []bool{false, true} {
						h := api.Head{Kind: kind, Names: strings.Fields(names), Open: open}
						// So many kids, with these signs.
						for n := kids; n > 1; n /= 2 {
							h.Kids = append(h.Kids, n%2)
						}
						x := auto("+ - +>3,0 -")
						x.L[2+map[bool]int{false: 1}[sign]].Heads = []api.Head{h}
						asked(t, "a head", x)
					}
				}
			}
		}
	}
}

// P15.1: the states that the root comes to, of automata with others.
func TestReach(t *testing.T) {
	for _, x := range []struct {
		text string
		root int
		want []int
	}{
		{"+", 0, []int{0}},
		{"+ +", 0, []int{0}},
		{"+ +", 1, []int{1}},
		{"+i -s +b", 2, []int{2}},
		{"+{a:2 +{a:0 +{a:2", 0, []int{0, 2}},
		{"+{a:2 +{a:0 +{a:2", 1, []int{0, 1, 2}},
		{"+{a:2 +{a:0 +{a:2", 2, []int{2}},
		{"+>1,3 -{a:5 +{a:0,b:4 +[b:6 +i -s +* ->2,5", 0, []int{0, 1, 3, 5, 6}},
		{"+>1,3 -{a:5 +{a:0,b:4 +[b:6 +i -s +* ->2,5", 2, []int{0, 1, 2, 3, 4, 5, 6}},
		{"+>1,3 -{a:5 +{a:0,b:4 +[b:6 +i -s +* ->2,5", 3, []int{3, 6}},
		{"+{a:3|[a:2 + +]b:1,c:4 + +", 0, []int{0, 1, 2, 3, 4}},
		{"+{b:3,c:2|[a:3 + +{a:4 + +i", 0, []int{0, 2, 3, 4}},
		{"+>1,0|]a:3 ->2,1 +'0 +'1 +'0", 0, []int{0, 1, 2, 3}},
	} {
		a := auto(x.text)
		a.Root = x.root
		if !asked(t, x.text, a) {
			t.Fatal(checkAnew(a))
		}
		if l := polar.Reach(a); !slices.Equal(l, x.want) {
			t.Errorf("Reach of %s, root %d: %v; it is %v", x.text, x.root, l, x.want)
		}
	}
}
