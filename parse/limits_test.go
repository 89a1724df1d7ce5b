package parse

import (
	"bytes"
	"fmt"
	"math/rand"
	"reflect"
	"slices"
	"strings"
	"testing"

	"azimuth/api"
	"azimuth/tree"
)

// P5.1: names of records, and tags of cases, that are there already; @ marks the place that is told.
func TestTwice(t *testing.T) {
	refused(t, Text, api.ErrTwice,
		`{a = 1, @a = 2}`, `{a = 1, b = 2, @a = 3}`, `{a = 1, b = 2, @b = 3, a = 4}`, `{a = 1, b = 2, @a = 3, b = 4}`, `{a = {a = 1, b = 2}, @a = 3}`, `{a = {a = 1, @a = 2}, a = 3}`, `{b = {a = 1, @a = 2}}`, `{a = {b = 1}, b = {b = 2, c = 3, @c = 4}}`,
		`f {a = 1} {a = 1, @a = 2}`, `fun x -> {a = x, @a = x}`, `(x : {a: int, @a: int})`, `(x : int => {a: int, b: int, @b: int})`, `({a = 1, b = 2} : {a: int, b: {a: int}, @a: int})`,
		`case x of | #a x -> 1 | @#a y -> 2 end`, `case x of | #a x -> 1 | #b x -> 2 | @#a x -> 3 | else -> 4 end`, `case x of | #a x -> 1 | #b x -> 2 | #c x -> 3 | @#c x -> 4 | #b x -> 5 end`, `case x of | #if x -> 1 | @#if x -> 2 end`,
		`case x of | #a x -> case x of | #a x -> 1 | @#a x -> 2 end end`, `case x of | #a x -> case x of | #a x -> 1 end | @#a x -> 2 end`, `case case x of | #a x -> 1 end of | #a x -> {a = 1} | @#a x -> 2 end`,
		`type A = {a: int, @a: int}; x`, `type A = [#a int | @#a int]; x`, `type A = {a: int}; type B = {a: A, b: A, @b: A}; x`,
	)
	refused(t, Type, api.ErrTwice,
		`{a: int, @a: int}`, `{a: int, b: int, @a: str}`, `{a: {a: int}, @a: int}`, `{a: {a: int, @a: int}, a: int}`, `{a: int} -> {a: int, @a: int}`,
		`[#a int | @#a int]`, `[#a int | #b int | @#b int | ..]`, `[#a int | #b int | @#a int | #b int]`, `[#fun int | @#fun int]`, `[#a [#a int] | @#a int]`, `[#a [#a int | @#a int] | #a int]`, `[#a [#b [#c int]] | #b int | @#a int]`, `[#a {a: int} | @#a int]`, `[#a [#b int | #c int] | #b int | #c int | @#c int]`,
	)
	reads(t,
		`{a = {a = 1}, b = {a = {b = 2}}}`, `Record@0 a,b(Record@5 a(Int@10 1), Record@18 a(Record@23 b(Int@28 2)))`,
		`{a = 1, a1 = case a of | #a a -> a | #a1 a -> {a = a} end}`, `Record@0 a,a1(Int@5 1, Case@13 a,a,a1,a(Var@18 a, Var@33 a, Record@46 a(Var@51 a)))`,
	)
	readsTypes(t, `[#a [#a {a: [#a int]}] | #b [#a int | #b int]]`,
		`TVariant@0 a,b(TVariant@4 a(TRecord@8 a(TVariant@12 a(TInt@16))), TVariant@28 a,b(TInt@32, TInt@41))`)
}

// P5.1: of what is wrong twice, the first one from the left.
func TestFirst(t *testing.T) {
	deep := strings.Repeat("(", 256)
	refused(t, Text, api.ErrTwice, `{a = 1, @a 2`, `{a = 1, @a = 2, a = 3}`, `{a = 1, @a = )`, `{a = 1, @a = `+deep+`x`, `{a = 1, @a`, `case x of | #a x -> 1 | @#a 1`, `case x of | #a x -> 1 | @#a`, `(x : [#a int | @#a ]) )`, `{a = 1, b = {a = 1, @a = 2}, a = 3}`)
	refused(t, Text, api.ErrParse, `{a = 1 @; a = 2, a = 3}`, `{a = @, a = 2}`, `{a = 1, b @a = 2}`, `case x of | #a @-> 1 | #a x -> 2 end`, `fun @-> {a = 1, a = 2}`, `fun @-> fun`, `x @) `+deep+`x`, `f @in {a = 1, a = 1}`)
	refused(t, Text, api.ErrDepth, deep+`@{a = 1, a = 2}`, deep+`@x`, deep+`@x fun`, deep+`@x)`, deep+`@(`, deep+`@fun )`, deep+`@#a )`)
	refused(t, Type, api.ErrTwice, `{a: int, @a int`, `{a: int, @a: `+deep+`int`, `[#a int | @#a`)
	refused(t, Type, api.ErrParse, `{a: int @; a: int, a: int}`, `[#a int | @| #a int]`, `int @int `+deep+`int`)
	refused(t, Type, api.ErrDepth, deep+`@{a: int, a: int}`, deep+`@int )`, deep+`@int`)
}

// P5.1: what chapter 3 tells to be wrong is told first: without it there are no tokens.
func TestTokensFirst(t *testing.T) {
	deep := strings.Repeat("(", 300)
	for _, parse := range []func(b []byte) (api.Tree, api.Diag){Text, Type} {
		refused(t, parse, api.ErrToken, `@!`, `@! fun fun`, `fun fun @!`, `x @01 )`, `) x @01`, `{a = 1, a = 1} @9223372036854775808`, `{a: int, a: int} @"`, `x @"`, `) @f'0`, `in @# a`, `in @&`, deep+`x @?`, `x. @'`)
		refused(t, parse, api.ErrText, "@\xff", "@\xff !", "! @\xff", "fun fun @\xc0\x80", "{a = 1, a = 1} @\xed\xa0\x80", "int @\xe2\x82", deep+"@\x80")
	}
	long := append([]byte("fun ! \xff"), make([]byte, api.MaxText)...)
	for _, door := range doors {
		if x, d := door.parse(long[:api.MaxText+1]); d != (api.Diag{Error: api.ErrLong}) || len(x.Nodes)+len(x.Types) > 0 {
			t.Errorf("%s: %v", door.name, d)
		}
		if x, d := door.parse(long[:api.MaxText]); d != (api.Diag{Error: api.ErrText, Pos: 6}) || len(x.Nodes)+len(x.Types) > 0 {
			t.Errorf("%s: %v", door.name, d)
		}
	}
	full := bytes.Repeat([]byte{' '}, api.MaxText+1)
	copy(full, " int")
	for _, door := range doors[1:] {
		if x, d := door.parse(full[:api.MaxText]); d != (api.Diag{}) || shownTree(x) != "TInt@1" {
			t.Error(d)
		}
		if x, d := door.parse(full); d != (api.Diag{Error: api.ErrLong}) || len(x.Types) > 0 {
			t.Error(d)
		}
	}
	copy(full, "   x")
	if x, d := Text(full[:api.MaxText]); d != (api.Diag{}) || shownTree(x) != "Var@3 x" {
		t.Error(d)
	}
	if _, d := Text(full); d != (api.Diag{Error: api.ErrLong}) {
		t.Error(d)
	}
}

// way is how one of the rules comes to stand within another: what stands ahead of it, and behind. @ marks where another one begins ahead of it.
type way struct{ ahead, behind string }

var termWays = []way{
	{`(`, `)`},
	{`fun x -> `, ``},
	{`let x = `, ` in x`},
	{`let x = @x in `, ``},
	{`let rec f = `, ` in f`},
	{`let rec f = @f in `, ``},
	{`if `, ` then x else x`},
	{`if @x then `, ` else x`},
	{`if @x then x else `, ``},
	{`case `, ` of | #a x -> x | else -> x end`},
	{`case `, ` of end`},
	{`case @x of | #a x -> `, ` end`},
	{`case @x of | #a x -> x | #b x -> `, ` | else -> x end`},
	{`case @x of | else -> `, ` end`},
	{`{a = `, `}`},
	{`{a = @x, b = `, `, c = x}`},
	{`f (`, `)`},
	{`(`, `) x`},
	{`#a (`, `)`},
	{`(`, `).a`},
	{`1 + 2 * (`, `) ^ "" == x`},
	{`x < f #a {b = `, `}.b`},
	{`(`, ` : int)`},
	{`(`, ` : int => {})`},
}

var typeWays = []way{
	{`(`, `)`},
	{`int -> `, ``},
	{`(`, `) -> int`},
	{`{a: `, `}`},
	{`{a: @int, b: `, `, c: int}`},
	{`[#a (`, `)]`},
	{`[#a [#b {a: `, `}] | ..]`},
	{`[#a [..] | #b [#a (`, `)]] -> A`},
	{`{a: @{}, b: `, `} -> {}`},
}

// typeBeginnings are how a type comes to stand within a term.
var typeBeginnings = []way{
	{`(x : `, `)`},
	{`(x : `, ` => int)`},
	{`(x : int => `, `)`},
	{`f #a (x : `, `).a`},
}

// within writes ways in one another, and tells where the first rule within the last of them begins.
func within(ways []way, inner string) (string, int) {
	var ahead, behind string
	at := 0
	for _, w := range ways {
		at = len(ahead) + strings.Index(w.ahead+"@", "@")
		ahead += strings.ReplaceAll(w.ahead, "@", "")
		behind = w.behind + behind
	}
	return ahead + inner + behind, at
}

// deepens looks whether just 256 rules may be open, of which each but the first stands within the one ahead by one of the ways.
func deepens(t *testing.T, parse func(b []byte) (api.Tree, api.Diag), ways []way, inner string) {
	t.Helper()
	for _, n := range []int{254, 255} {
		s, _ := within(ways[:n], inner)
		if x, d := parse([]byte(s)); d != (api.Diag{}) || len(x.Nodes)+len(x.Types) == 0 {
			t.Fatalf("%d in one another: %v\n%s", n, d, s)
		}
	}
	_, at := within(ways[:256], inner)
	for _, n := range []int{256, 257, len(ways)} {
		s, _ := within(ways[:n], inner)
		if x, d := parse([]byte(s)); d != (api.Diag{Error: api.ErrDepth, Pos: at}) || len(x.Nodes)+len(x.Types) > 0 {
			t.Fatalf("%d in one another: %v, not at %d\n%s", n, d, at, s)
		}
	}
}

// repeated is one way, many times.
func repeated(w way, n int) []way { return slices.Repeat([]way{w}, n) }

// P5.1: just MaxDepth of the rules open, and one more, by each way in which terms stand within one another.
func TestDepthOfTerms(t *testing.T) {
	for _, w := range termWays {
		deepens(t, Text, repeated(w, 1000), "x")
	}
	chance := rand.New(rand.NewSource(7))
	for range 200 {
		var ways []way
		for range 300 {
			ways = append(ways, termWays[chance.Intn(len(termWays))])
		}
		deepens(t, Text, ways, "x")
	}
}

// P5.1: so of types, by themselves, in terms, and in type rows.
func TestDepthOfTypes(t *testing.T) {
	inRow := func(b []byte) (api.Tree, api.Diag) {
		const ahead = "type B = {}; type A = "
		x, d := Text([]byte(ahead + string(b) + "; x"))
		d.Pos = max(0, d.Pos-len(ahead))
		return x, d
	}
	for _, w := range typeWays {
		deepens(t, Type, repeated(w, 1000), "int")
		deepens(t, inRow, repeated(w, 1000), "int")
		for i, begin := range typeBeginnings {
			deepens(t, Text, append([]way{begin}, repeated(w, 1000)...), "int")
			deepens(t, Text, slices.Concat(repeated(termWays[3*i], 200), []way{begin}, repeated(w, 1000)), "[#a [#b [..]]]")
		}
	}
	deep := strings.Repeat("(", 254)
	refused(t, Text, api.ErrDepth, deep+"((@x : int))", deep+"((@x : int => int))", deep+"(x : int -> @int)", deep+"(x : {a: @int})", deep+"(x : (@int) => int)", deep+"(x : int => [#a (@A)])")
	close := strings.Repeat(")", 254)
	for _, s := range []string{"(x : int)", "(x : int => [#a [#b int]])", "(x : {} => [..])"} {
		if _, d := Text([]byte(deep + s + close)); d != (api.Diag{}) {
			t.Errorf("%s: %v", s, d)
		}
	}
}

// P5.1: what isn't within one another isn't deep: rules that have ended, rows, points, and variants in variants.
func TestNotDeep(t *testing.T) {
	const many = 3000
	again := func(s string) string { return strings.Repeat(s, many) }
	for _, s := range []string{
		"x" + again(" (x)"), "x" + again(" (fun x -> x)"), "x" + again(" + x"), "x" + again(" ^ (let x = x in x)"), "x" + again(" * (if x then x else x)"),
		"x" + again(".a"), "x" + again(" #a x"), "x" + again(" (x : int)"), "x" + again(" (x : int -> int => {})"), "x" + again(" {a = x, b = x}"),
		again("type A = int -> int;") + " x", "(x : " + again("[#a ") + "int" + again("]") + ")", "case x of end",
	} {
		x, d := Text([]byte(s))
		if d != (api.Diag{}) || tree.Check(x) != api.OK {
			t.Errorf("%.30s: %v", s, d)
		}
	}
	var arms, fields strings.Builder
	for i := range many {
		fmt.Fprintf(&arms, " | #a%d x -> (x)", i)
		fmt.Fprintf(&fields, "a%d = fun x -> (x), ", i)
	}
	for _, s := range []string{"case x of" + arms.String() + " end", "{" + fields.String() + "b = x}"} {
		if x, d := Text([]byte(s)); d != (api.Diag{}) || tree.Depth(x) != 3 && tree.Depth(x) != 2 {
			t.Errorf("%.30s: %v, %d", s, d, tree.Depth(x))
		}
	}
	for _, s := range []string{again("[#a ") + "int" + again(" | ..]"), again("[#a {} | #b ") + "int" + again("]"), "int -> " + again("[#a ") + "[]" + again("]")} {
		if _, d := Type([]byte(s)); d != (api.Diag{}) {
			t.Errorf("%.30s: %v", s, d)
		}
	}
	refused(t, Type, api.ErrParse, again("[#a ")+"@", again("[#a ")+"int"+strings.Repeat("]", many-1)+"@", again("[#a ")+"[]"+again("]")+"@]")
}

// sizes: how many terms, and types, a text has.
func sizes(t *testing.T, s string, nodes, types int) {
	t.Helper()
	x, d := Text([]byte(s))
	if d != (api.Diag{}) || len(x.Nodes) != nodes || len(x.Types) != types || tree.Check(x) != api.OK {
		t.Errorf("%.30s: %v, %d terms, %d types", s, d, len(x.Nodes), len(x.Types))
	}
}

func tooLong(t *testing.T, parse func(b []byte) (api.Tree, api.Diag), s string) {
	t.Helper()
	if x, d := parse([]byte(s)); d != (api.Diag{Error: api.ErrLong}) || len(x.Nodes)+len(x.Types)+len(x.Aliases) > 0 {
		t.Errorf("%.30s: %v", s, d)
	}
}

// manyNames are n, each with what stands ahead of it and behind.
func manyNames(n int, ahead, behind, between string) string {
	var l []string
	for i := range n {
		l = append(l, ahead+"n"+fmt.Sprintf("%x", i)+behind)
	}
	return strings.Join(l, between)
}

// P5.1: just MaxNodes terms, and one more.
func TestManyTerms(t *testing.T) {
	// A row of n has n - 1 applications, or signs.
	for _, each := range []string{" x", "+1", "* x", " ^true", " \"\""} {
		row := "x" + strings.Repeat(each, 32767)
		sizes(t, row, 65535, 0)
		sizes(t, " fun y -> "+row, 65536, 0)
		tooLong(t, Text, " "+row+each)
		tooLong(t, Text, " fun y -> fun z -> "+row)
	}
	row := "x" + strings.Repeat(" x", 32767)
	for _, w := range []way{
		{"  (", ").a.b"}, {"#a (#b (", "))"}, {"{a = {b = ", "}}"}, {"((", " : A) : A => A)"}, {"let x = x in ", ""},
		{"let rec x = ", " in x"}, {"if x then x else ", ""}, {"case x of | else -> ", " end"},
	} {
		tooLong(t, Text, w.ahead+row+w.behind)
	}
	sizes(t, "x"+strings.Repeat(".a", 65535), 65536, 0)
	tooLong(t, Text, " x"+strings.Repeat(".a", 65536))
	sizes(t, "{"+manyNames(65535, "", "=1", ",")+"}", 65536, 0)
	tooLong(t, Text, " {"+manyNames(65536, "", "=1", ",")+"}")
	sizes(t, "case x of "+manyNames(65534, "|#", " x->1", "")+" end", 65536, 0)
	tooLong(t, Text, "case x of "+manyNames(65535, "|#", " x->1", "")+" end")
}

// P5.1: just MaxNodes types, by themselves, in type rows and in terms; terms and types are counted each by themselves.
func TestManyTypes(t *testing.T) {
	rows := strings.Repeat("type A=A;", 65536)
	sizes(t, rows+"x", 1, 65536)
	sizes(t, rows+"fun y->x"+strings.Repeat(" x", 32767), 65536, 65536)
	tooLong(t, Text, "type A=A; "+rows+"x")
	tooLong(t, Text, rows+"(x : int)")
	sizes(t, "x"+strings.Repeat(" (x:A=>A)", 20000), 60001, 40000)
	for _, s := range []string{
		"{" + manyNames(65535, "", ":A", ",") + "}",
		"[" + manyNames(65535, "#", " A", "|") + "]",
		strings.Repeat("[#a ", 65535) + "A" + strings.Repeat("]", 65535),
	} {
		x, d := Type([]byte(s))
		if d != (api.Diag{}) || len(x.Types) != 65536 {
			t.Errorf("%.30s: %v, %d types", s, d, len(x.Types))
			continue
		}
		mayBe(t, x)
		tooLong(t, Type, " [#b "+s+"]")
		tooLong(t, Type, s+" -> A")
		tooLong(t, Text, "type A = A -> "+s+"; x")
		tooLong(t, Text, "(x : "+s+" => A)")
	}
	refused(t, Text, api.ErrParse, "x @) "+strings.Repeat(" x", 70000), "type A = @; "+rows+rows[:9]+"x")
	refused(t, Type, api.ErrParse, "int @"+strings.Repeat("int ", 70000))
}

// P5.1: bytes that are no text, or texts of nothing; each call ends.
func TestWrongInputs(t *testing.T) {
	for _, door := range doors {
		for _, b := range [][]byte{nil, {}} {
			if x, d := door.parse(b); d != (api.Diag{Error: api.ErrParse}) || len(x.Nodes)+len(x.Types) > 0 {
				t.Errorf("%s of nothing: %v", door.name, d)
			}
		}
		refused(t, door.parse, api.ErrParse, "  \n\t\r@", "// x@", "@=", "@;")
		for _, open := range []string{"(", "{a = ", "{a: ", "fun x -> ", "int -> ", "[#a (", "let x = ", "case ", "if ", "[#a "} {
			b := []byte(strings.Repeat(open, api.MaxText/len(open)))
			if _, d := door.parse(b); d.Error != api.ErrDepth && d.Error != api.ErrParse {
				t.Errorf("%s of many %s: %v", door.name, open, d)
			}
		}
	}
	chance := rand.New(rand.NewSource(8))
	pieces := append(allTokens(), "\xff", "!", "\"", "//", "f'", "#", "\n")
	for range 15000 {
		var b []byte
		for range chance.Intn(12) {
			b = append(b, writtenToken(pieces[chance.Intn(len(pieces))], chance.Intn(3))...)
			b = append(b, " \n"[:chance.Intn(3)]...)
		}
		x, d := Text(b)
		if (d.Error == api.OK) != (tree.Check(x) == api.OK) || d.Pos < 0 || d.Pos > len(b) || d.Name != "" {
			t.Fatalf("%q: %v", b, d)
		}
		if y, d := Type(b); (d.Error == api.OK) != (len(y.Types) > 0) || d.Pos < 0 || d.Pos > len(b) || d.Name != "" {
			t.Fatalf("%q: %v", b, d)
		}
	}
}

// P5.2: what is handed in isn't changed, its spare room neither, and isn't kept.
func TestHandedIn(t *testing.T) {
	for _, s := range []string{"type A = {b: [#c B | ..]}; case {d = \"e\"}.d of | #f g -> (h + f'3ff0000000000000 : A) end", "{a: int} -> [#b B]", "{a = 1, a = 2}", "fun x", "{a: int, a: int}", "!", "\xff"} {
		for _, door := range doors {
			room := []byte(s + "spare room")
			b := room[:len(s)]
			x, d := door.parse(b)
			if string(room) != s+"spare room" {
				t.Errorf("%q was changed", s)
			}
			before := fmt.Sprint(x, d)
			for i := range room {
				room[i] = 'z'
			}
			if fmt.Sprint(x, d) != before {
				t.Errorf("%q was kept", s)
			}
			if y, e := door.parse([]byte(s)); fmt.Sprint(y, e) != before {
				t.Errorf("%q: %v, %v, then %v, %v", s, x, d, y, e)
			}
		}
	}
}

// spoil changes all of a tree, and what stands behind its lists.
func spoil(x api.Tree) {
	for i := range x.Nodes[:cap(x.Nodes)] {
		n := &x.Nodes[:cap(x.Nodes)][i]
		spoilNames(n.Names)
		spoilNumbers(n.Kids)
		spoilNumbers(n.Types)
		*n = api.Node{Kind: -1, Name: "spoilt"}
	}
	for i := range x.Types[:cap(x.Types)] {
		n := &x.Types[:cap(x.Types)][i]
		spoilNames(n.Names)
		spoilNumbers(n.Kids)
		*n = api.TypeNode{Kind: -1, Name: "spoilt"}
	}
	for i := range x.Aliases[:cap(x.Aliases)] {
		x.Aliases[:cap(x.Aliases)][i] = api.Alias{Name: "spoilt"}
	}
}

func spoilNames(l []string) {
	for i := range l[:cap(l)] {
		l[:cap(l)][i] = "spoilt"
	}
}

func spoilNumbers(l []int) {
	for i := range l[:cap(l)] {
		l[:cap(l)][i] = -1
	}
}

// P5.2: an answer is new memory: it may be changed, and no other answer is; no two of its lists share any.
func TestNewMemory(t *testing.T) {
	texts := []string{
		"type A = {b: [#c B | #d B | ..], c: B}; type B = A -> A; case {d = e, f = g}.d of | #f g -> (h + 1 : A) | #g h -> (f x : A => {a: B}) end",
		"{a: int, b: {c: A}} -> [#b B | #c [#d A]]",
	}
	for i, door := range doors {
		x, _ := door.parse([]byte(texts[i]))
		y, _ := door.parse([]byte(texts[i]))
		before := tree.Clone(y)
		spoil(x)
		if !reflect.DeepEqual(y, before) {
			t.Errorf("%s: two answers share memory", door.name)
		}
		if z, _ := door.parse([]byte(texts[i])); !reflect.DeepEqual(z, before) {
			t.Errorf("%s: the answer has changed", door.name)
		}
		var names [][]string
		var numbers [][]int
		for _, n := range y.Nodes {
			names, numbers = append(names, n.Names), append(numbers, n.Kids, n.Types)
		}
		for _, n := range y.Types {
			names, numbers = append(names, n.Names), append(numbers, n.Kids)
		}
		apart(t, names, "mark")
		apart(t, numbers, -1)
	}
}

// apart looks whether lists share no memory: what is put in one, and behind it, is seen in none of the others.
func apart[T comparable](t *testing.T, lists [][]T, mark T) {
	t.Helper()
	for i, l := range lists {
		kept := slices.Clone(l[:cap(l)])
		for j := range kept {
			l[:cap(l)][j] = mark
		}
		for j, other := range lists {
			if j != i && slices.Contains(other[:cap(other)], mark) {
				t.Errorf("the lists %d and %d share memory", i, j)
			}
		}
		copy(l[:cap(l)], kept)
	}
}
