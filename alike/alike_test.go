package alike_test

import (
	"slices"
	"strings"
	"testing"

	"azimuth/api"
)

// P10.1: the chapter's examples.
func TestExamples(t *testing.T) {
	told(t, "an example", of(t, "dyn"), of(t, "int -> dyn"), true, true)
	told(t, "an example", of(t, "any"), of(t, "dyn"), false, true)
	told(t, "an example", of(t, "int"), of(t, "str"), false, false)
	dynTold(t, "an example", of(t, "int -> dyn"), true, true)
	dynTold(t, "an example", of(t, "any"), false, true)
	dynTold(t, "an example", of(t, "int"), true, true)
}

// bases are types of each kind, and for each the others, of them, to which a cast from it may be; one to itself may be, too.
func bases() map[string]string {
	return map[string]string{
		"int":               "dyn; any",
		"bool":              "dyn; any",
		"str":               "dyn; any",
		"float":             "dyn; any",
		"dyn":               "int; bool; str; float; any; none; int -> str; dyn -> any; {}; {a: int}; {a: dyn}; {a: any, b: int}; []; [..]; [#a int]; [#a dyn]; [#a int | ..]; [#a any | ..]; [#a str | #b int]",
		"any":               "",
		"none":              "int; bool; str; float; dyn; any; int -> str; any -> str; dyn -> any; {}; {a: int}; {a: dyn}; {a: any, b: int}; []; [..]; [#a int]; [#a dyn]; [#a int | ..]; [#a any | ..]; [#a str | #b int]",
		"int -> str":        "dyn; any; dyn -> any",
		"any -> str":        "dyn; any; int -> str; dyn -> any",
		"dyn -> any":        "any",
		"{}":                "dyn; any",
		"{a: int}":          "dyn; any; {}; {a: dyn}",
		"{a: dyn}":          "dyn; any; {}; {a: int}",
		"{a: any, b: int}":  "any; {}",
		"[]":                "dyn; any; [..]; [#a int]; [#a dyn]; [#a int | ..]; [#a any | ..]; [#a str | #b int]",
		"[..]":              "any; []; [#a any | ..]",
		"[#a int]":          "dyn; any; []; [..]; [#a dyn]; [#a int | ..]; [#a any | ..]",
		"[#a dyn]":          "dyn; any; []; [..]; [#a int]; [#a int | ..]; [#a any | ..]; [#a str | #b int]",
		"[#a int | ..]":     "any; []; [..]; [#a int]; [#a dyn]; [#a any | ..]",
		"[#a any | ..]":     "any; []; [..]",
		"[#a str | #b int]": "dyn; any; []; [..]; [#a dyn]; [#a any | ..]",
	}
}

// isBase: may a cast from one of the bases to another one be?
func isBase(one, other string) bool {
	return one == other || slices.Contains(strings.Split(bases()[one], "; "), other)
}

// P10.1: each kind from and to each.
func TestKinds(t *testing.T) {
	for one := range bases() {
		a := of(t, one)
		for other := range bases() {
			b := of(t, other)
			told(t, one+" and "+other, a, b, isBase(one, other), isBase(other, one))
			if mayAnew(a, b) != isBase(one, other) {
				t.Fatalf("%s, %s: the test's own words are wrong", one, other)
			}
		}
		dynTold(t, one, a, isBase(one, "dyn"), isBase("dyn", one))
		told(t, "the same", a, a, true, true)
	}
}

// P10.1: each type in the place of a kid, in one head and in several, against the same with another kid and against dyn; functions turn what they take.
func TestKids(t *testing.T) {
	for place, has := range map[string]struct{ turned, to, from bool }{
		"int -> @": {false, true, true}, "@ -> int": {true, true, true},
		"any -> @": {false, true, false}, "@ -> any": {true, false, true},
		"none -> @": {false, true, true}, "@ -> none": {true, true, true},
		"dyn -> @": {false, true, true}, "@ -> dyn": {true, true, true},
		"int -> @ -> int": {true, true, true}, "int -> int -> @": {false, true, true},
		"(@ -> int) -> int": {false, true, true}, "(int -> @) -> int": {true, true, true},
		"(@ -> any) -> int": {false, true, false}, "(any -> @) -> int": {true, false, true},
		"((@ -> int) -> int) -> int": {true, true, true}, "((int -> @) -> int) -> int": {false, true, true},
		"(int -> @ -> int) -> int": {false, true, true}, "(int -> int -> @) -> int": {true, true, true},
		"{a: @}": {false, true, true}, "{a: int, b: @}": {false, true, true}, "{a: @, b: int, c: any}": {false, false, true},
		"{a: {b: @}}": {false, true, true}, "{a: @ -> int}": {true, true, true}, "{a: @} -> int": {true, true, true}, "{a: any, b: @} -> int": {true, true, false},
		"[#a @]": {false, true, true}, "[#a int | #b @]": {false, true, true}, "[#a @ | #b int | #c any]": {false, false, true},
		"[#a [#b @]]": {false, true, true}, "[#a (@ -> int)]": {true, true, true}, "[#a @] -> int": {true, true, true}, "[#a any | #b @] -> int": {true, true, false},
		"[#a @ | ..]": {false, false, true}, "[#a int | #b @ | ..]": {false, false, true}, "[#a @ | #b int | #c any | ..]": {false, false, true},
		"[#a [#b @ | ..] | ..]": {false, false, true}, "[#a [#b @ | ..]]": {false, false, true}, "[#a (@ -> int) | ..]": {true, false, true}, "[#a @ | ..] -> int": {true, true, false},
		"[#a {b: [#c @] -> int} | ..]": {true, false, true},
	} {
		in := func(text string) api.Graph { return of(t, strings.Replace(place, "@", "("+text+")", 1)) }
		for one := range bases() {
			to, from := isBase(one, "dyn"), isBase("dyn", one)
			if has.turned {
				to, from = from, to
			}
			dynTold(t, place+" of "+one, in(one), to && has.to, from && has.from)
			for other := range bases() {
				there, back := isBase(one, other), isBase(other, one)
				if has.turned {
					there, back = back, there
				}
				told(t, place+" of "+one+" and "+other, in(one), in(other), there, back)
			}
		}
	}
}

// P10.1: several kids, of which each must be cast: those of a function, of records and of variants.
func TestSeveralKids(t *testing.T) {
	for _, place := range []string{
		"{a: @, b: @, c: @, d: @}", "[#a @ | #b @ | #c @ | #d @]", "[#a @ | #b @ | #c @ | #d @ | ..]", "int -> {a: @, b: @, c: @, d: @}",
		"{a: {a: @, b: @}, b: {a: @, b: @}}", "{a: [#a @], b: [#b @ | ..], c: int -> @, d: {a: @}}", "[#a {a: @} | #b {a: @, b: @} | #c @]",
	} {
		some := func(kids ...string) api.Graph {
			text := place
			for _, kid := range kids {
				text = strings.Replace(text, "@", kid, 1)
			}
			return of(t, text)
		}
		for i := range 1 << 4 {
			// Each kid is one of two, of which the one can be cast to the other one, and that not to it; nor can that be cast to dyn.
			pick := func(bits int) (l []string) {
				for k := range 4 {
					l = append(l, []string{"int", "any"}[bits>>k&1])
				}
				return l
			}
			dynTold(t, place, some(pick(i)...), i == 0 && !strings.Contains(place, ".."), true)
			for j := range 1 << 4 {
				told(t, place, some(pick(i)...), some(pick(j)...), i&^j == 0, j&^i == 0)
			}
		}
	}
	for _, one := range []string{"int", "any", "none", "dyn"} {
		for _, other := range []string{"int", "any", "none", "dyn"} {
			for _, it := range []string{"int", "any", "none", "dyn"} {
				for _, that := range []string{"int", "any", "none", "dyn"} {
					told(t, "functions", of(t, one+" -> "+it), of(t, other+" -> "+that), isBase(other, one) && isBase(it, that), isBase(one, other) && isBase(that, it))
				}
			}
		}
	}
}

// P10.1: functions one way, turned, and turned twice; against dyn.
func TestFunctions(t *testing.T) {
	for _, x := range []struct {
		one, other  string
		there, back bool
	}{
		{"int -> int", "int -> int", true, true},
		{"int -> int", "int -> any", true, false},
		{"int -> int", "any -> int", false, true},
		{"int -> int", "any -> any", false, false},
		{"any -> int", "int -> any", true, false},
		{"none -> any", "any -> none", false, true},
		{"int -> int", "bool -> int", false, false},
		{"int -> int", "int -> bool", false, false},
		{"int -> bool", "bool -> int", false, false},
		{"int -> int", "none -> int", true, false},
		{"int -> int", "int -> none", false, true},
		{"int -> dyn", "dyn -> str", true, true},
		{"int -> dyn", "str -> dyn", false, false},
		{"dyn -> int", "dyn -> str", false, false},
		{"dyn -> dyn", "int -> str", true, true},
		{"dyn -> dyn", "any -> int", false, true},
		{"dyn -> dyn", "int -> any", true, false},
		{"dyn -> dyn", "none -> any", true, false},
		{"dyn -> dyn", "none -> none", true, true},
		{"dyn -> none", "none -> dyn", true, true},
		{"dyn -> any", "any -> dyn", false, true},
		{"(int -> int) -> int", "(any -> int) -> int", true, false},
		{"(int -> any) -> int", "(int -> int) -> int", true, false},
		{"(any -> int) -> int", "(int -> any) -> any", false, false},
		{"((any -> int) -> int) -> int", "((int -> int) -> int) -> int", true, false},
		{"((int -> int) -> int) -> int", "((int -> any) -> int) -> int", true, false},
		{"((int -> dyn) -> int) -> int", "((dyn -> str) -> bool) -> int", false, false},
		{"((int -> dyn) -> int) -> int", "((dyn -> str) -> int) -> int", true, true},
		{"int -> any -> int", "int -> int -> int", true, false},
		{"dyn -> any -> dyn", "int -> int -> str", true, false},
		{"{a: int} -> {}", "{a: int, b: int} -> {}", true, false},
		{"{} -> {a: int}", "{a: int} -> {}", true, false},
		{"[..] -> []", "[#a any | ..] -> [#a int]", true, true},
		{"[#a int] -> int", "[#a int | ..] -> int", true, true},
		{"int -> int", "{}", false, false},
		{"int -> int", "[]", false, false},
		{"int -> int", "int", false, false},
		{"int -> int", "any", true, false},
		{"int -> int", "none", false, true},
		{"int -> int", "(int -> int) -> int", false, false},
		{"int -> int", "dyn -> int -> int", false, false},
		{"int -> int", "int -> dyn", true, true},
		{"int -> int -> int", "int -> dyn", true, true},
		{"(int -> int) -> int", "dyn -> int", true, true},
		{"(any -> int) -> int", "dyn -> int", false, true},
		{"(int -> any) -> int", "dyn -> int", true, false},
		{"int -> any -> int", "int -> dyn", true, false},
		{"int -> int -> any", "int -> dyn", false, true},
	} {
		told(t, x.one+" and "+x.other, of(t, x.one), of(t, x.other), x.there, x.back)
	}
	for _, x := range []struct {
		text     string
		to, from bool
	}{
		{"int -> int", true, true},
		{"dyn -> dyn", true, true},
		{"any -> int", true, false},
		{"int -> any", false, true},
		{"any -> any", false, false},
		{"none -> none", true, true},
		{"none -> any", false, true},
		{"any -> none", true, false},
		{"(any -> int) -> int", false, true},
		{"(int -> any) -> int", true, false},
		{"int -> any -> int", true, false},
		{"int -> int -> any", false, true},
		{"((any -> int) -> int) -> int", true, false},
		{"(any -> any) -> none", false, false},
		{"[..] -> int", true, false},
		{"int -> [..]", false, true},
		{"{a: any} -> int", true, false},
		{"int -> {a: any}", false, true},
		{"{a: int -> str} -> [#a int | #b (str -> bool)]", true, true},
	} {
		dynTold(t, x.text, of(t, x.text), x.to, x.from)
	}
}

// P10.1: records with a name more, a name less, no name, and kids of the same names; from dyn and to dyn.
func TestRecords(t *testing.T) {
	for _, x := range []struct {
		one, other  string
		there, back bool
	}{
		{"{}", "{}", true, true},
		{"{a: int}", "{}", true, false},
		{"{a: none}", "{}", true, false},
		{"{a: any}", "{}", true, false},
		{"{a: dyn}", "{}", true, false},
		{"{a: any, b: none, c: dyn}", "{}", true, false},
		{"{a: int}", "{a: int}", true, true},
		{"{a: int}", "{b: int}", false, false},
		{"{a: dyn}", "{b: dyn}", false, false},
		{"{a: int}", "{a: any}", true, false},
		{"{a: none}", "{a: int}", true, false},
		{"{a: none}", "{a: dyn}", true, true},
		{"{a: int}", "{a: bool}", false, false},
		{"{a: int}", "{a: dyn}", true, true},
		{"{a: dyn}", "{a: any}", true, false},
		{"{a: dyn}", "{a: {b: int}}", true, true},
		{"{a: dyn}", "{a: {b: any}}", true, false},
		{"{a: dyn}", "{a: [..]}", true, false},
		{"{a: int, b: str}", "{a: int}", true, false},
		{"{a: int, b: str}", "{b: str}", true, false},
		{"{a: int, b: str}", "{b: int}", false, false},
		{"{a: int, b: str}", "{b: dyn}", true, false},
		{"{a: int, b: str}", "{b: str, a: int}", true, true},
		{"{a: int, b: str}", "{a: str, b: int}", false, false},
		{"{a: int, b: str}", "{a: dyn, b: str}", true, true},
		{"{a: int, b: dyn}", "{a: dyn, b: str}", true, true},
		{"{a: int, b: dyn}", "{a: str, b: dyn}", false, false},
		{"{a: int, b: any}", "{a: any, b: str}", false, false},
		{"{a: int, b: any}", "{a: dyn, b: dyn}", false, true},
		{"{a: int, b: str}", "{a: int, b: str, c: any}", false, true},
		{"{a: int, b: str}", "{a: dyn, c: dyn}", false, false},
		{"{a: int, b: int, c: int}", "{b: dyn}", true, false},
		{"{a: int, b: int, c: int}", "{a: int, c: int}", true, false},
		{"{b: int, c: int, d: int}", "{a: int, b: int}", false, false},
		{"{b: int, c: int, d: int}", "{d: int, e: int}", false, false},
		{"{a: int, aa: int}", "{aa: int}", true, false},
		{"{aa: int}", "{a: int}", false, false},
		{"{a: {b: int, c: int}, d: {}}", "{a: {b: int}}", true, false},
		{"{a: {b: int}}", "{a: {b: int, c: int}}", false, true},
		{"{a: int}", "[#a int]", false, false},
		{"{}", "[]", false, false},
		{"{}", "[..]", false, false},
		{"{}", "int", false, false},
		{"{}", "none", false, true},
		{"{}", "any", true, false},
	} {
		told(t, x.one+" and "+x.other, of(t, x.one), of(t, x.other), x.there, x.back)
	}
	for _, x := range []struct {
		text     string
		to, from bool
	}{
		{"{}", true, true},
		{"{a: int}", true, true},
		{"{a: bool}", true, true},
		{"{a: str}", true, true},
		{"{a: float}", true, true},
		{"{a: dyn}", true, true},
		{"{a: none}", true, true},
		{"{a: any}", false, true},
		{"{a: any, b: int}", false, true},
		{"{a: int, b: any}", false, true},
		{"{a: {a: any}}", false, true},
		{"{a: {a: int}, b: {}}", true, true},
		{"{a: int, b: any -> int}", true, false},
		{"{a: any, b: any -> int}", false, false},
		{"{a: int, b: [..]}", false, true},
		{"{a: [..], b: [..] -> int}", false, false},
		{"{a: int, b: str, c: dyn, d: none, e: {}, f: []}", true, true},
	} {
		dynTold(t, x.text, of(t, x.text), x.to, x.from)
	}
}
