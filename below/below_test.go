package below_test

import (
	"slices"
	"strings"
	"testing"

	"azimuth/api"
	"azimuth/below"
	"azimuth/graph"
)

// P9.1: the document's and the chapter's examples.
func TestExamples(t *testing.T) {
	told(t, "an example", of(t, "{a: int, b: int}"), of(t, "{a: int}"), true, false)
	told(t, "an example", of(t, "int -> int"), of(t, "any -> int"), false, true)
}

// bases are types of each kind, and for each the others, of them, that it is below; each is below itself, too.
func bases() map[string]string {
	return map[string]string{
		"int":               "any",
		"bool":              "any",
		"str":               "any",
		"float":             "any",
		"dyn":               "any",
		"any":               "",
		"none":              "int; bool; str; float; dyn; any; int -> str; any -> str; {}; {a: int}; {b: int}; {a: any, b: int}; []; [..]; [#a int]; [#a int | ..]; [#a any | ..]; [#a any | #b int]",
		"int -> str":        "any",
		"any -> str":        "any; int -> str",
		"{}":                "any",
		"{a: int}":          "any; {}",
		"{b: int}":          "any; {}",
		"{a: any, b: int}":  "any; {}; {b: int}",
		"[]":                "any; [..]; [#a int]; [#a int | ..]; [#a any | ..]; [#a any | #b int]",
		"[..]":              "any; [#a any | ..]",
		"[#a int]":          "any; [..]; [#a int | ..]; [#a any | ..]; [#a any | #b int]",
		"[#a int | ..]":     "any; [..]; [#a any | ..]",
		"[#a any | ..]":     "any; [..]",
		"[#a any | #b int]": "any; [..]; [#a any | ..]",
	}
}

// isBase: is one of the bases below another one?
func isBase(one, other string) bool {
	return one == other || slices.Contains(strings.Split(bases()[one], "; "), other)
}

// P9.1: each kind against each.
func TestKinds(t *testing.T) {
	var texts []string
	var l []api.Graph
	for text := range bases() {
		texts = append(texts, text)
		l = append(l, of(t, text))
	}
	table := below.Table(l)
	for i, one := range texts {
		for j, other := range texts {
			told(t, one+" and "+other, l[i], l[j], isBase(one, other), isBase(other, one))
			if table[i][j] != isBase(one, other) {
				t.Errorf("%s, %s: Table isn't %v", one, other, !table[i][j])
			}
			if belowAnew(l[i], l[j]) != isBase(one, other) {
				t.Fatalf("%s, %s: the test's own words are wrong", one, other)
			}
		}
	}
}

// P9.1: each type in the place of a kid, in one head and in several; functions turn what they take.
func TestKids(t *testing.T) {
	for place, turned := range map[string]bool{
		"int -> @": false, "@ -> int": true, "any -> @": false, "@ -> any": true, "none -> @": false, "@ -> none": true,
		"(@ -> int) -> int": false, "(int -> @) -> int": true, "int -> @ -> int": true, "int -> int -> @": false,
		"((@ -> int) -> int) -> int": true, "((int -> @) -> int) -> int": false, "(int -> @ -> int) -> int": false, "(int -> int -> @) -> int": true,
		"{a: @}": false, "{a: int, b: @}": false, "{a: @, b: int, c: any}": false, "{a: {b: @}}": false, "{a: @ -> int}": true, "{a: @} -> int": true,
		"[#a @]": false, "[#a int | #b @]": false, "[#a @ | #b int | #c any]": false, "[#a [#b @]]": false, "[#a (@ -> int)]": true, "[#a @] -> int": true,
		"[#a @ | ..]": false, "[#a int | #b @ | ..]": false, "[#a @ | #b int | #c any | ..]": false, "[#a [#b @ | ..] | ..]": false, "[#a (@ -> int) | ..]": true, "[#a @ | ..] -> int": true,
		"[#a {b: [#c @] -> int} | ..]": true,
	} {
		in := func(text string) api.Graph { return of(t, strings.Replace(place, "@", "("+text+")", 1)) }
		for one := range bases() {
			for other := range bases() {
				there, back := isBase(one, other), isBase(other, one)
				if turned {
					there, back = back, there
				}
				told(t, place+" of "+one+" and "+other, in(one), in(other), there, back)
			}
		}
	}
}

// P9.1: several kids, of which each must hold: those of a function, of records and of variants.
func TestSeveralKids(t *testing.T) {
	for _, place := range []string{
		"{a: @, b: @, c: @, d: @}", "[#a @ | #b @ | #c @ | #d @]", "[#a @ | #b @ | #c @ | #d @ | ..]", "int -> {a: @, b: @, c: @, d: @}",
		"{a: {a: @, b: @}, b: {a: @, b: @}}", "{a: [#a @], b: [#b @ | ..], c: int -> @, d: {a: @}}", "[#a {a: @} | #b {a: @, b: @} | #c @]",
	} {
		some := func(kids ...string) api.Graph {
			text := place
			for _, kid := range kids {
				text = strings.Replace(text, "@", kid, 1)
			}
			return of(t, text)
		}
		for i := range 1 << 4 {
			for j := range 1 << 4 {
				// Each kid is one of two, of which the one is below the other one.
				pick := func(bits int) (l []string) {
					for k := range 4 {
						l = append(l, []string{"{a: int}", "{}"}[bits>>k&1])
					}
					return l
				}
				told(t, place, some(pick(i)...), some(pick(j)...), i&^j == 0, j&^i == 0)
			}
		}
	}
	for _, one := range []string{"int", "any", "none"} {
		for _, other := range []string{"int", "any", "none"} {
			for _, it := range []string{"int", "any", "none"} {
				for _, that := range []string{"int", "any", "none"} {
					told(t, "functions", of(t, one+" -> "+it), of(t, other+" -> "+that), isBase(other, one) && isBase(it, that), isBase(one, other) && isBase(that, it))
				}
			}
		}
	}
}

// P9.1: functions one way, turned, and turned twice.
func TestFunctions(t *testing.T) {
	for _, x := range []struct {
		one, other  string
		there, back bool
	}{
		{"int -> int", "int -> int", true, true},
		{"int -> int", "int -> any", true, false},
		{"int -> int", "any -> int", false, true},
		{"int -> int", "any -> any", false, false},
		{"any -> int", "int -> any", true, false},
		{"any -> any", "int -> int", false, false},
		{"none -> any", "any -> none", false, true},
		{"int -> int", "bool -> int", false, false},
		{"int -> int", "int -> bool", false, false},
		{"int -> bool", "bool -> int", false, false},
		{"dyn -> dyn", "int -> int", false, false},
		{"dyn -> dyn", "none -> any", true, false},
		{"dyn -> none", "none -> dyn", true, false},
		{"(int -> int) -> int", "(any -> int) -> int", true, false},
		{"(int -> any) -> int", "(int -> int) -> int", true, false},
		{"(int -> any) -> int", "(any -> int) -> any", true, false},
		{"(any -> int) -> int", "(int -> any) -> any", false, false},
		{"((any -> int) -> int) -> int", "((int -> int) -> int) -> int", true, false},
		{"((int -> int) -> int) -> int", "((int -> any) -> int) -> int", true, false},
		{"int -> any -> int", "int -> int -> int", true, false},
		{"any -> any -> int", "int -> int -> any", true, false},
		{"any -> int -> int", "int -> any -> any", false, false},
		{"{a: int} -> {}", "{a: int, b: int} -> {}", true, false},
		{"{} -> {a: int}", "{a: int} -> {}", true, false},
		{"{a: int} -> {}", "{} -> {a: int}", false, true},
		{"[..] -> []", "[#a int] -> [#a int]", true, false},
		{"[#a int | ..] -> int", "[#a int] -> int", true, false},
		{"(int -> {a: int}) -> int", "(int -> {a: int, b: int}) -> int", true, false},
		{"({a: int, b: int} -> int) -> int", "({a: int} -> int) -> int", true, false},
		{"int -> int", "{}", false, false},
		{"int -> int", "dyn", false, false},
		{"int -> int", "int", false, false},
		{"int -> int", "(int -> int) -> int", false, false},
		{"int -> int", "int -> int -> int", false, false},
		{"none -> int", "(int -> int) -> int", false, true},
		{"int -> any", "int -> int -> int", false, true},
	} {
		told(t, x.one+" and "+x.other, of(t, x.one), of(t, x.other), x.there, x.back)
	}
}

// P9.1: records with a name more, a name less, no name, and kids of the same names.
func TestRecords(t *testing.T) {
	for _, x := range []struct {
		one, other  string
		there, back bool
	}{
		{"{}", "{}", true, true},
		{"{a: int}", "{}", true, false},
		{"{a: none}", "{}", true, false},
		{"{a: any}", "{}", true, false},
		{"{a: any, b: none, c: dyn}", "{}", true, false},
		{"{a: int}", "{a: int}", true, true},
		{"{a: int}", "{b: int}", false, false},
		{"{a: int}", "{a: any}", true, false},
		{"{a: none}", "{a: int}", true, false},
		{"{a: int}", "{a: bool}", false, false},
		{"{a: int}", "{a: dyn}", false, false},
		{"{a: int, b: str}", "{a: int}", true, false},
		{"{a: int, b: str}", "{b: str}", true, false},
		{"{a: int, b: str}", "{b: int}", false, false},
		{"{a: int, b: str}", "{b: str, a: int}", true, true},
		{"{a: int, b: str}", "{a: str, b: int}", false, false},
		{"{a: int, b: str}", "{a: any, b: str}", true, false},
		{"{a: int, b: str}", "{a: int, b: any}", true, false},
		{"{a: int, b: any}", "{a: any, b: str}", false, false},
		{"{a: int, b: str}", "{a: int, b: str, c: any}", false, true},
		{"{a: int, b: str}", "{a: any, c: any}", false, false},
		{"{a: int, b: any, c: int}", "{b: int}", false, false},
		{"{a: int, b: int, c: int}", "{b: any}", true, false},
		{"{a: int, b: int, c: int}", "{a: int, c: int}", true, false},
		{"{b: int, c: int, d: int}", "{a: int, b: int}", false, false},
		{"{b: int, c: int, d: int}", "{d: int, e: int}", false, false},
		{"{a: int, aa: int}", "{aa: int}", true, false},
		{"{a: int, aa: int}", "{aaa: int}", false, false},
		{"{aa: int}", "{a: int}", false, false},
		{"{a_: int, a0: str}", "{a0: str}", true, false},
		{"{a: {b: int, c: int}, d: {}}", "{a: {b: int}}", true, false},
		{"{a: {b: int}}", "{a: {b: int, c: int}}", false, true},
		{"{a: {}}", "{a: {a: {}}}", false, true},
		{"{a: int}", "[#a int]", false, false},
		{"{}", "[]", false, false},
		{"{}", "[..]", false, false},
		{"{}", "dyn", false, false},
		{"{a: dyn}", "dyn", false, false},
	} {
		told(t, x.one+" and "+x.other, of(t, x.one), of(t, x.other), x.there, x.back)
	}
}

// P9.1: variants, open and not, against open ones and not.
func TestVariants(t *testing.T) {
	for _, x := range []struct {
		one, other  string
		there, back bool
	}{
		// none open
		{"[]", "[]", true, true},
		{"[]", "[#a int]", true, false},
		{"[]", "[#a none]", true, false},
		{"[]", "[#a any | #b dyn]", true, false},
		{"[#a int]", "[#a int]", true, true},
		{"[#a int]", "[#b int]", false, false},
		{"[#a int]", "[#a any]", true, false},
		{"[#a none]", "[#a int]", true, false},
		{"[#a int]", "[#a str]", false, false},
		{"[#a int]", "[#a dyn]", false, false},
		{"[#a int]", "[#a int | #b int]", true, false},
		{"[#b int]", "[#a int | #b int]", true, false},
		{"[#a any]", "[#a int | #b int]", false, false},
		{"[#a int]", "[#a str | #b int]", false, false},
		{"[#a int | #b str]", "[#b str | #a int]", true, true},
		{"[#a int | #b str]", "[#a str | #b int]", false, false},
		{"[#a int | #c int]", "[#a int | #b int | #c int]", true, false},
		{"[#a int | #c int]", "[#a int | #b any | #c str]", false, false},
		{"[#a int | #b int]", "[#b int | #c int]", false, false},
		{"[#a none | #b int]", "[#b int]", false, true},
		{"[#a [#b int]]", "[#a [#b int | #c int]]", true, false},
		// the one not, the other one open
		{"[]", "[..]", true, false},
		{"[]", "[#a int | ..]", true, false},
		{"[]", "[#a none | #b any | ..]", true, false},
		{"[#a int]", "[..]", true, false},
		{"[#a any]", "[..]", true, false},
		{"[#a int | #b str]", "[..]", true, false},
		{"[#a int]", "[#a int | ..]", true, false},
		{"[#a int]", "[#a any | ..]", true, false},
		{"[#a int]", "[#a str | ..]", false, false},
		{"[#a any]", "[#a int | ..]", false, false},
		{"[#a int]", "[#b int | ..]", true, false},
		{"[#a int]", "[#a int | #b int | ..]", true, false},
		{"[#a int | #b str]", "[#a int | ..]", true, false},
		{"[#a int | #b str]", "[#b str | ..]", true, false},
		{"[#a int | #b str]", "[#b int | ..]", false, false},
		{"[#a int | #b str]", "[#b any | #c int | ..]", true, false},
		{"[#a any | #b any]", "[#a any | #b any | ..]", true, false},
		// both open
		{"[..]", "[..]", true, true},
		{"[#a int | ..]", "[..]", true, false},
		{"[#a none | ..]", "[..]", true, false},
		{"[#a any | ..]", "[..]", true, true},
		{"[#a any | #b any | ..]", "[..]", true, true},
		{"[#a any | #b any | ..]", "[#b any | ..]", true, true},
		{"[#a any | ..]", "[#b any | ..]", true, true},
		{"[#a any | #b int | ..]", "[..]", true, false},
		{"[#a any | #b int | ..]", "[#b int | ..]", true, true},
		{"[#a int | #b any | ..]", "[#a int | ..]", true, true},
		{"[#a any | #b int | ..]", "[#b int | #c any | ..]", true, true},
		{"[#a any | #b int | ..]", "[#b int | #c int | ..]", false, true},
		{"[#a dyn | ..]", "[..]", true, false},
		{"[#a {} | ..]", "[..]", true, false},
		{"[#a [..] | ..]", "[..]", true, false},
		{"[#a (any -> any) | ..]", "[..]", true, false},
		{"[#a int | ..]", "[#a int | ..]", true, true},
		{"[#a int | ..]", "[#a any | ..]", true, false},
		{"[#a int | ..]", "[#a str | ..]", false, false},
		{"[#a int | ..]", "[#b int | ..]", false, false},
		{"[#a int | ..]", "[#b any | ..]", true, false},
		{"[#a int | ..]", "[#a int | #b any | ..]", true, true},
		{"[#a int | ..]", "[#a int | #b int | ..]", false, true},
		{"[#b int | ..]", "[#a int | #b int | ..]", false, true},
		{"[#b int | ..]", "[#a any | #b int | ..]", true, true},
		{"[#b int | ..]", "[#a any | #b int | #c any | ..]", true, true},
		{"[#b int | ..]", "[#a any | #b int | #c int | ..]", false, true},
		{"[#b int | ..]", "[#a int | #b int | #c any | ..]", false, true},
		{"[#b int | ..]", "[#a any | #b str | #c any | ..]", false, false},
		{"[#a int | #c int | ..]", "[#a int | #b int | #c int | ..]", false, true},
		{"[#a int | #c int | ..]", "[#a int | #b any | #c int | ..]", true, true},
		{"[#a int | #c int | ..]", "[#b any | ..]", true, false},
		{"[#a int | #c int | ..]", "[#b any | #d any | ..]", true, false},
		{"[#a int | #c int | ..]", "[#b any | #d dyn | ..]", false, false},
		{"[#a int | #c int | ..]", "[#b none | #d any | ..]", false, false},
		{"[#a int | #b str | ..]", "[#a any | #b any | ..]", true, false},
		// the one open, the other one not: never
		{"[..]", "[]", false, true},
		{"[..]", "[#a any]", false, true},
		{"[#a int | ..]", "[#a any]", false, false},
		{"[#a none | ..]", "[#a int]", false, false},
		{"[#a any | ..]", "[#a any]", false, true},
		{"[#a any | ..]", "[#a any | #b any]", false, true},
		// other kinds
		{"[..]", "dyn", false, false},
		{"[#a int]", "{a: int}", false, false},
		{"[..]", "int -> int", false, false},
	} {
		told(t, x.one+" and "+x.other, of(t, x.one), of(t, x.other), x.there, x.back)
	}
}

// P9.1: Equal of types that are alike, of unlike ones each below the other one, and of those of which one is.
func TestEqual(t *testing.T) {
	for _, x := range []struct {
		one, other  string
		equal, same bool
	}{
		{"int", "int", true, true},
		{"{b: int, a: any -> [..]}", "{a: any -> [..], b: int}", true, true},
		{"[..]", "[#a any | ..]", true, false},
		{"{a: [..]} -> [..]", "{a: [#a any | ..]} -> [#b any | #c any | ..]", true, false},
		{"[#a [..] | ..]", "[#a [#a any | ..] | #b any | ..]", true, false},
		{"[#a [#b any | ..] | #b any | ..]", "[#a [..] | ..]", true, false},
		{"[#a [..] | ..]", "[..]", false, false},
		{"[..]", "[#a int | ..]", false, false},
		{"{a: int}", "{}", false, false},
		{"none", "any", false, false},
		{"int", "str", false, false},
	} {
		a, b := of(t, x.one), of(t, x.other)
		if below.Equal(a, b) != x.equal || below.Equal(b, a) != x.equal || graph.Same(a, b) != x.same {
			t.Errorf("%s and %s: not %v", x.one, x.other, x.equal)
		}
	}
}

// P9.1: Table of none, of one, of several, of the same twice, of some that may not be among others.
func TestTable(t *testing.T) {
	if table := below.Table(nil); len(table) != 0 {
		t.Error(table)
	}
	if table := below.Table([]api.Graph{}); len(table) != 0 {
		t.Error(table)
	}
	wrong := made(0, "> 1 1")
	for _, x := range []struct {
		l    []string
		want string
	}{
		{[]string{"int"}, "1"},
		{[]string{"none"}, "1"},
		{[]string{"@"}, "0"},
		{[]string{"@", "@"}, "00 00"},
		{[]string{"int", "int"}, "11 11"},
		{[]string{"int", "any"}, "11 01"},
		{[]string{"any", "int"}, "10 11"},
		{[]string{"none", "int", "any"}, "111 011 001"},
		{[]string{"any", "int", "none"}, "100 110 111"},
		{[]string{"none", "@", "any"}, "101 000 001"},
		{[]string{"@", "none", "any"}, "000 011 001"},
		{[]string{"none", "any", "@"}, "110 010 000"},
		{[]string{"@", "none", "@", "any", "@"}, "00000 01010 00000 00010 00000"},
		{[]string{"{}", "{a: int}", "{}", "{a: any}"}, "1010 1111 1010 1011"},
		{[]string{"[..]", "[#a int]", "[#a any | ..]", "[#a any]", "[]"}, "10100 11110 10100 10110 11111"},
		{[]string{"int -> int", "any -> int", "int -> any", "any -> any", "none -> none"}, "10100 11110 00100 00110 00001"},
	} {
		var l []api.Graph
		for _, text := range x.l {
			if text == "@" {
				l = append(l, wrong)
			} else {
				l = append(l, of(t, text))
			}
		}
		if s := shownTable(below.Table(l)); s != x.want {
			t.Errorf("%q: %s; it is %s", x.l, s, x.want)
		}
	}
}

func shownTable(table [][]bool) string {
	var l []string
	for _, row := range table {
		s := ""
		for _, b := range row {
			s += map[bool]string{false: "0", true: "1"}[b]
		}
		l = append(l, s)
	}
	return strings.Join(l, " ")
}
