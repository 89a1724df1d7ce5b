package arena_test

import (
	"fmt"
	"slices"
	"testing"

	"azimuth/api"
	"azimuth/arena"
)

// P12.1: New of numbers that may be, and that may not.
func TestNew(t *testing.T) {
	for _, n := range []int{1, 2, 3, 255, 256, 4095, 4096, 4097, 65536, api.MaxArena - 1, api.MaxArena} {
		a, e := arena.New(n)
		if e != api.OK || a == nil {
			t.Errorf("New of %d: %v, %d", n, a, e)
			continue
		}
		if a.Len() != 0 || a.Level(0) != 0 || a.IsVar(0) || len(a.Low(0))+len(a.High(0)) > 0 {
			t.Errorf("New of %d: something is there", n)
		}
		if i, e := a.Var(1); i != 0 || e != api.OK || a.Len() != 1 {
			t.Errorf("New of %d: the first one: %d, %d", n, i, e)
		}
	}
	for _, n := range []int{0, -1, -2, -api.MaxArena, api.MaxArena + 1, 2 * api.MaxArena, most, most - 1, least, least + 1, 1 + 1<<32, 1 - 1<<32, -1 << 62} {
		if a, e := arena.New(n); a != nil || e != api.ErrArg {
			t.Errorf("New of %d: %v, %d", n, a, e)
		}
	}
}

// P12.1: Var at levels that may be, and that may not.
func TestVar(t *testing.T) {
	x := pair(t, 40)
	for _, level := range []int{0, 1, 2, 1, 0, 7, 255, 256, 65536, 1 << 31, 1<<32 + 1, 1 << 62, most - 1, most, 0} {
		x.Var(level)
		x.asAnew(fmt.Sprint("a variable of level ", level))
	}
	if x.Len() != 15 || x.Level(13) != most || x.Level(14) != 0 || !x.IsVar(14) {
		t.Error("levels")
	}
	for _, level := range []int{-1, -2, -256, -1 << 31, -1 << 32, least, least + 1} {
		if i, e := x.Arena.Var(level); i != 0 || e != api.ErrArg {
			t.Errorf("Var of level %d: %d, %d", level, i, e)
		}
		x.asAnew(fmt.Sprint("behind one of level ", level))
	}
}

// P12.1: Var with room for one more, and without; a level below 0 is told first.
func TestVarWithoutRoom(t *testing.T) {
	for _, n := range []int{1, 2, 3, 10} {
		x := pair(t, n)
		for i := range n {
			if got := x.Var(i + 1); got != i {
				t.Errorf("%d of %d: %d", i, n, got)
			}
		}
		for _, level := range []int{0, 1, most} {
			if i, e := x.Arena.Var(level); i != 0 || e != api.ErrLimit {
				t.Errorf("of %d, level %d: %d, %d", n, level, i, e)
			}
		}
		for _, level := range []int{-1, least} {
			if i, e := x.Arena.Var(level); i != 0 || e != api.ErrArg {
				t.Errorf("of %d, level %d: %d, %d", n, level, i, e)
			}
		}
		x.asAnew("full")
	}
}

// P12.1: heads of each kind, with kids of each sort.
func TestHeads(t *testing.T) {
	x := pair(t, 100)
	for i, sign := range []string{"i", "b", "s", "f", "d", "*", "!", "{", "[", "]"} {
		if got := x.head(sign); got != i {
			t.Errorf("%s: %d", sign, got)
		}
	}
	v, w := x.Var(2), x.Var(5)
	for _, one := range []struct {
		text  string
		level int
	}{
		// kids that are heads, variables, both, the head ahead, the same part twice
		{"> 0 1", 0},
		{"> 10 0", 2},
		{"> 0 10", 2},
		{"> 10 10", 2},
		{"> 11 11", 5},
		{"> 10 11", 5},
		{"> 11 10", 5},
		{"> 18 18", 5},
		{"> 19 0", 5},
		{"> 12 12", 0},
		{"> 21 14", 2},
		{"{ a:0", 0},
		{"{ a:10", 2},
		{"{ a:24", 2},
		{"{ _:0 a:0 a0:0 aa:0 b:0", 0},
		{"{ a:0 b:10 c:11 d:10 e:0", 5},
		{"{ a:11 b:10 c:0", 5},
		{"{ a:0 b:10", 2},
		{"{ a:10 b:10 c:10", 2},
		{"[ a:0", 0},
		{"[ a:31", 0},
		{"[ a:10 in:11", 5},
		{"[ else:11 in:10 int:0 z:3", 5},
		{"] a:10", 2},
		{"] a:35", 2},
		{"] let:3 rec:4", 0},
		{"] a:0 b:22", 2},
		{"i", 0},
		{"*", 0},
	} {
		n := x.Len()
		if i := x.head(one.text); i != n || x.Level(i) != one.level || x.IsVar(i) {
			t.Errorf("%s: %d behind %d, level %d; it is %d", one.text, i, n, x.Level(i), one.level)
		}
		x.asAnew(one.text)
	}
	if v != 10 || w != 11 || x.Len() != 41 {
		t.Fatal("the test's own numbers are wrong", v, w, x.Len())
	}
}

// P12.1: a head's level is that of its greatest kid's, however far in it the variable is, and wherever among the kids.
func TestLevels(t *testing.T) {
	const n = 12
	x := pair(t, 1000)
	for i := range n {
		x.Var(n - 1 - i)
	}
	record := api.Head{Kind: api.TRecord}
	for i := range n {
		record.Names, record.Kids = append(record.Names, fmt.Sprintf("k%02d", i)), append(record.Kids, i)
	}
	for at := range n {
		// The greatest level at each place, the others by turns.
		h := clonedHead(record)
		h.Kids = append(h.Kids[at:], h.Kids[:at]...)
		i := x.Head(h)
		if x.Level(i) != n-1 {
			t.Errorf("turned by %d: %d", at, x.Level(i))
		}
		h = api.Head{Kind: api.TRecord, Names: record.Names[at:], Kids: record.Kids[at:]}
		if i := x.Head(h); x.Level(i) != n-1-at {
			t.Errorf("from %d: %d", at, x.Level(i))
		}
	}
	// Deep within heads.
	for level := range n {
		i := n - 1 - level
		for range 20 {
			i = x.Head(api.Head{Kind: api.TFun, Kids: []int{n - 1, i}})
			i = x.Head(api.Head{Kind: api.TVariant, Open: true, Names: []string{"a", "b"}, Kids: []int{i, i}})
			if x.Level(i) != level {
				t.Fatalf("within %d: %d", level, x.Level(i))
			}
		}
	}
	x.asAnew("levels")
}

// P12.1: levels at their end, and a head above variables that are bound by others: bounds count for nothing in it.
func TestGreatLevels(t *testing.T) {
	x := pair(t, 10)
	x.Var(most)
	x.Var(most - 1)
	x.Var(0)
	x.head("> 1 2")
	x.head("> 3 0")
	x.Bound(2, 0, true)
	x.Bound(2, 4, false)
	x.Bound(1, 0, false)
	x.head("> 2 2")
	x.head("{ a:2 b:1")
	for i, level := range []int{most, most - 1, 0, most - 1, most, 0, most - 1} {
		if x.Level(i) != level {
			t.Errorf("%d: %d; it is %d", i, x.Level(i), level)
		}
	}
	x.asAnew("great levels")
}

// P12.1: a head's kid that isn't there: itself, one that comes later, one below 0, far ones, at each place.
func TestKidsNotThere(t *testing.T) {
	x := pair(t, 10)
	refused := func(text string) {
		t.Helper()
		if i, e := x.Arena.Head(headMade(text)); i != 0 || e != api.ErrForm {
			t.Errorf("%s: %d, %d", text, i, e)
		}
		x.asAnew(text)
	}
	for _, text := range []string{"> 0 0", "{ a:0", "[ a:0", "] a:0", "> 0 1", "> -1 -1", "{ a:-1", "{ a:0 b:1"} {
		refused(text)
	}
	x.Var(1)
	x.head("> 0 0")
	for _, kid := range append(outside(2), 3, 9, 10, 11, 255, -2) {
		for _, text := range []string{"> %d 0", "> 0 %d", "> %[1]d %[1]d", "{ a:%d", "{ a:1 b:%d", "{ a:%d b:1 c:0", "[ a:0 b:%d c:0", "] a:1 b:0 c:%d", "[ let:%d"} {
			refused(fmt.Sprintf(text, kid))
		}
	}
	// What wasn't there is, when it has come.
	if i := x.head("> 1 0"); i != 2 {
		t.Error(i)
	}
	if i := x.head("> 2 2"); i != 3 {
		t.Error(i)
	}
	refused("> 4 4")
}

// P12.1: heads that haven't what their kind asks, in each way.
func TestHeadsThatMayNotBe(t *testing.T) {
	x := pair(t, 20)
	x.Var(3)
	x.head("i")
	refused := func(what string, h api.Head) {
		t.Helper()
		if mayBeHead(h, x.Len()) {
			t.Errorf("%s: the test's own words are wrong: %v", what, h)
		}
		if i, e := x.Arena.Head(h); i != 0 || e != api.ErrForm {
			t.Errorf("%s: %v: %d, %d", what, h, i, e)
		}
		x.asAnew(what)
	}
	for _, kind := range []int{-1, least, api.TAlias, api.TKinds, api.TKinds + 1, 255, 256, 256 + api.TFun, 1 << 32, most} {
		refused("a kind that there isn't", api.Head{Kind: kind})
		refused("a kind that there isn't, with two kids", api.Head{Kind: kind, Kids: []int{0, 1}})
		refused("a kind that there isn't, with a name", api.Head{Kind: kind, Names: []string{"a"}, Kids: []int{0}})
	}
	for kind := api.TInt; kind <= api.TNone; kind++ {
		refused("a kid too many", api.Head{Kind: kind, Kids: []int{0}})
		refused("two kids too many", api.Head{Kind: kind, Kids: []int{0, 1}})
		refused("a name too many", api.Head{Kind: kind, Names: []string{"a"}})
		refused("a name and a kid", api.Head{Kind: kind, Names: []string{"a"}, Kids: []int{1}})
		refused("open", api.Head{Kind: kind, Open: true})
	}
	for _, kids := range [][]int{{}, {0}, {1}, {0, 1, 0}, {0, 0, 0, 0}} {
		refused("a function", api.Head{Kind: api.TFun, Kids: kids})
	}
	refused("a function with a name", api.Head{Kind: api.TFun, Names: []string{"a"}, Kids: []int{0, 1}})
	refused("a function with two names", api.Head{Kind: api.TFun, Names: []string{"a", "b"}, Kids: []int{0, 1}})
	refused("a function that is open", api.Head{Kind: api.TFun, Kids: []int{0, 1}, Open: true})
	refused("a record that is open", api.Head{Kind: api.TRecord, Open: true})
	refused("a record of a name that is open", api.Head{Kind: api.TRecord, Names: []string{"a"}, Kids: []int{0}, Open: true})
	for _, h := range []api.Head{{Kind: api.TRecord}, {Kind: api.TVariant}, {Kind: api.TVariant, Open: true}} {
		look := func(what string, names []string, kids ...int) {
			t.Helper()
			h.Names, h.Kids = names, kids
			refused(what, h)
		}
		look("no names", nil, 0)
		look("no kids", []string{"a"})
		look("too few names", []string{"a", "b"}, 0, 1, 0)
		look("too few kids", []string{"a", "b", "c"}, 0, 1)
		look("a name twice", []string{"a", "a"}, 0, 1)
		look("a name twice, not first", []string{"a", "b", "b"}, 0, 1, 1)
		look("names that fall", []string{"b", "a"}, 0, 1)
		look("names that fall behind", []string{"a", "c", "b"}, 0, 1, 0)
		look("names that fall far", []string{"b", "c", "d", "a"}, 0, 1, 0, 1)
		look("names that fall by one sign", []string{"ab", "a"}, 0, 1)
		look("names that fall by bytes", []string{"a_", "a0"}, 0, 1)
		for _, name := range []string{"", "A", "aB", "0", "#a", "a b", "é", "\xff", "a\x00", "a:", "a;", "a."} {
			look("no name", []string{name}, 0)
		}
	}
	for _, word := range []string{"fun", "let", "rec", "in", "if", "then", "else", "case", "of", "end", "true", "false", "int", "bool", "str", "float", "dyn", "any", "none", "type"} {
		refused("a word in a record", api.Head{Kind: api.TRecord, Names: []string{word}, Kids: []int{0}})
		x := pair(t, 20)
		x.Var(1)
		x.head("[ " + word + ":0")
		x.head("] " + word + ":1")
		x.asAnew("a tag that is a word")
	}
}

// P12.1: all heads of few names and kids: each is there just if its kind has it so.
func TestAllHeads(t *testing.T) {
	may := 0
	for kind := -1; kind <= api.TKinds; kind++ {
		for _, names := range [][]string{nil, {"a"}, {"b"}, {"a", "b"}, {"b", "a"}, {"a", "a"}, {"a", "b", "c"}, {"let"}, {"A"}, {"a", "let"}} {
			for kids := range 4 {
				for _, open := range []bool{false, true} {
					x := pair(t, 3)
					x.Var(4)
					x.head("i")
					h := api.Head{Kind: kind, Names: names, Kids: []int{1, 0, 1}[:kids], Open: open}
					x.Head(h)
					x.asAnew(short(h))
					may += x.Len() - 2
					// Which error stands first, where there is no room.
					x.Head(h)
					full := pair(t, 2)
					full.Var(4)
					full.head("i")
					full.Head(h)
					full.asAnew(short(h))
				}
			}
		}
	}
	// Of the seven kinds without kids, of functions, and of records and variants, which may be open, with some of these names.
	if may != 7+1+(1+2+1+1)+2*(1+2+1+1+1+1) {
		t.Error(may)
	}
}

// P12.1: heads in a full arena, and in one with room for one: what is wrong with a head is told ahead of that there is no room.
func TestHeadWithoutRoom(t *testing.T) {
	for _, n := range []int{1, 2, 5} {
		x := pair(t, n)
		x.Var(1)
		for x.Len() < n {
			x.head("> 0 0")
		}
		for text, want := range map[string]api.Errno{
			"i": api.ErrLimit, "> 0 0": api.ErrLimit, "{": api.ErrLimit, "{ a:0": api.ErrLimit, "] let:0": api.ErrLimit,
			"> 0": api.ErrForm, fmt.Sprint("> 0 ", n): api.ErrForm, fmt.Sprint("{ a:", n): api.ErrForm, "{ a:-1": api.ErrForm, "{ let:0": api.ErrForm, "i 0": api.ErrForm, "[ b:0 a:0": api.ErrForm, "?": api.ErrForm,
		} {
			if i, e := x.Arena.Head(headMade(text)); i != 0 || e != want {
				t.Errorf("%s in a full arena of %d: %d, %d; it is %d", text, n, i, e, want)
			}
			x.asAnew(text)
		}
	}
}

// P12.2: Parts of an arena without parts, of variables alone, of heads alone, of both, gone through in part, and twice.
func TestParts(t *testing.T) {
	x := pair(t, 30)
	none := x.Parts()
	for i, h := range none {
		t.Error(i, h)
	}
	x.Var(0)
	x.Var(1)
	for i, h := range x.Parts() {
		t.Error(i, h)
	}
	x.head("> 1 0")
	x.head("i")
	x.Var(2)
	x.Graph(made(0, "{ a:1 b:0", "s"))
	x.Var(0)
	x.head("] a:7 b:4")
	want := []int{2, 3, 5, 6, 8}
	parts := x.Parts()
	for range 3 {
		var got []int
		for i := range parts {
			got = append(got, i)
		}
		if !slices.Equal(got, want) {
			t.Errorf("%v; they are %v", got, want)
		}
	}
	for n := 1; n <= len(want); n++ {
		var got []int
		for i, h := range parts {
			got = append(got, i)
			if own, ok := x.At(i); !ok || !equalHeads(own, h) {
				t.Errorf("%d: %v; it is %v", i, h, own)
			}
			if len(got) == n {
				break
			}
		}
		if !slices.Equal(got, want[:n]) {
			t.Errorf("in part: %v; they are %v", got, want[:n])
		}
	}
	// One within another.
	both := 0
	for i := range parts {
		for k := range parts {
			both += i*10 + k
		}
	}
	if both != 24*11*5 {
		t.Error(both)
	}
	x.asAnew("behind all that")
}

// P12.2: Parts of an arena to which parts are put on the way ends, and doesn't miss what was there.
func TestPartsPutOnTheWay(t *testing.T) {
	x := pair(t, 50)
	x.head("i")
	x.Var(1)
	x.head("> 1 0")
	var got []int
	for i := range x.Parts() {
		got = append(got, i)
		x.head("{")
		x.Var(1)
	}
	if len(got) < 2 || !slices.Equal(got[:2], []int{0, 2}) || !slices.IsSorted(got) {
		t.Error(got)
	}
	x.asAnew("behind what was put")
}

// P12.2: of an arena that isn't there: ErrArg, 0, false, nothing.
func TestNil(t *testing.T) {
	var a *arena.Arena
	numbers := []int{0, 1, -1, 2, most, least}
	for _, n := range numbers {
		if i, e := a.Var(n); i != 0 || e != api.ErrArg {
			t.Errorf("Var of %d: %d, %d", n, i, e)
		}
		if l := a.Level(n); l != 0 {
			t.Errorf("Level of %d: %d", n, l)
		}
		if a.IsVar(n) {
			t.Errorf("IsVar of %d", n)
		}
		if h, ok := a.At(n); ok || !equalHeads(h, api.Head{}) {
			t.Errorf("At %d: %v, %v", n, h, ok)
		}
		if l := a.Low(n); len(l) > 0 {
			t.Errorf("Low of %d: %v", n, l)
		}
		if l := a.High(n); len(l) > 0 {
			t.Errorf("High of %d: %v", n, l)
		}
		for _, k := range numbers {
			for _, above := range []bool{true, false} {
				if first, e := a.Bound(n, k, above); first || e != api.ErrArg {
					t.Errorf("Bound of %d by %d: %v, %d", n, k, first, e)
				}
			}
		}
	}
	for _, text := range []string{"i", "{", "]", "> 0 0", "{ a:0", "> 0", "[ b:0 a:0"} {
		if i, e := a.Head(headMade(text)); i != 0 || e != api.ErrArg {
			t.Errorf("Head %s: %d, %d", text, i, e)
		}
	}
	for _, g := range []api.Graph{made(0, "i"), made(0, "> 0 0"), made(0, "{ a:1", "i"), {}, made(0, "> 0"), made(1, "i")} {
		if i, e := a.Graph(g); i != 0 || e != api.ErrArg {
			t.Errorf("Graph %v: %d, %d", g, i, e)
		}
	}
	if n := a.Len(); n != 0 {
		t.Error(n)
	}
	if n := a.Room(); n != 0 {
		t.Error(n)
	}
	for i, h := range a.Parts() {
		t.Error(i, h)
	}
}

// Room: as many parts go in as it tells, whatever they are, and then no more; what goes wrong leaves it as it is.
func TestRoom(t *testing.T) {
	for _, n := range []int{1, 2, 3, 7, 4096, api.MaxArena} {
		a, _ := arena.New(n)
		room := n
		told := func(what string) {
			t.Helper()
			if got := a.Room(); got != room {
				t.Fatalf("of %d, %s: %d; it is %d", n, what, got, room)
			}
		}
		told("without parts")
		a.Var(-1)
		a.Head(api.Head{Kind: api.TFun})
		a.Graph(api.Graph{})
		told("behind what can't be")
		for _, graph := range []api.Graph{made(0, "> 1 2", "i", "s"), made(0, "> 1 1", "i"), made(0, "f")} {
			if k := len(graph.L); k <= room {
				room -= k
				a.Graph(graph)
			}
			told("behind a graph")
			if len(graph.L) > room {
				a.Graph(graph)
				told("behind a graph that is too great")
			}
		}
		for room > 0 {
			if room--; room%2 == 0 {
				a.Var(1)
			} else {
				a.Head(api.Head{Kind: api.TRecord})
			}
			told("behind a part")
		}
		a.Var(0)
		a.Head(api.Head{Kind: api.TInt})
		told("full")
	}
	if n := (&arena.Arena{}).Room(); n != 0 {
		t.Error("of one that nothing made:", n)
	}
}

// The chapter's example: a variable of level 2, and a head of it.
func TestExample(t *testing.T) {
	a, _ := arena.New(2)
	v, e := a.Var(2)
	h, f := a.Head(api.Head{Kind: api.TFun, Kids: []int{v, v}})
	if e != api.OK || f != api.OK || v != 0 || h != 1 || a.Level(h) != 2 {
		t.Error(v, e, h, f, a.Level(h))
	}
}
