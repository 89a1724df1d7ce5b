package lattice_test

import (
	"fmt"
	"strings"
	"testing"
)

// P11.1: variants, none open.
func TestClosedVariants(t *testing.T) {
	for _, x := range [][4]string{
		{"[]", "[]", "[]", "[]"},
		{"[]", "[#a int]", "[#a int]", "[]"},
		{"[]", "[#a any | #b none]", "[#a any | #b none]", "[]"},
		{"[#a int]", "[#a int]", "[#a int]", "[#a int]"},
		{"[#a int]", "[#a str]", "[#a any]", "[#a none]"},
		{"[#a int]", "[#a any]", "[#a any]", "[#a int]"},
		{"[#a int]", "[#a none]", "[#a int]", "[#a none]"},
		{"[#a int]", "[#a dyn]", "[#a any]", "[#a none]"},
		{"[#a int]", "[#b int]", "[#a int | #b int]", "[]"},
		{"[#b any]", "[#a none]", "[#a none | #b any]", "[]"},
		{"[#a int | #b str]", "[#a int]", "[#a int | #b str]", "[#a int]"},
		{"[#a int | #b str]", "[#b any]", "[#a int | #b any]", "[#b str]"},
		{"[#a int | #b str]", "[#b str | #a int]", "[#a int | #b str]", "[#a int | #b str]"},
		{"[#a int | #b str]", "[#a str | #b int]", "[#a any | #b any]", "[#a none | #b none]"},
		{"[#a int | #b str]", "[#b int | #c dyn]", "[#a int | #b any | #c dyn]", "[#b none]"},
		{"[#a int | #c str]", "[#b int | #d dyn]", "[#a int | #b int | #c str | #d dyn]", "[]"},
		{"[#a int | #b int | #c int]", "[#b {}]", "[#a int | #b any | #c int]", "[#b none]"},
		{"[#a {b: int} | #c int]", "[#a {c: int} | #b int]", "[#a {} | #b int | #c int]", "[#a {b: int, c: int}]"},
		{"[#a [#b int]]", "[#a [#c int]]", "[#a [#b int | #c int]]", "[#a []]"},
		{"[#in int | #let str]", "[#let str | #of int]", "[#in int | #let str | #of int]", "[#let str]"},
	} {
		toldTexts(t, x[0], x[1], x[2], x[3])
	}
}

// P11.1: variants, the one open, on either side.
func TestOneOpen(t *testing.T) {
	for _, x := range [][4]string{
		// none has a name
		{"[]", "[..]", "[..]", "[]"},
		// the open one has none
		{"[#a int]", "[..]", "[..]", "[#a int]"},
		{"[#a any]", "[..]", "[..]", "[#a any]"},
		{"[#a none]", "[..]", "[..]", "[#a none]"},
		{"[#a int | #b str]", "[..]", "[..]", "[#a int | #b str]"},
		// the other one has none
		{"[]", "[#a int | ..]", "[#a int | ..]", "[]"},
		{"[]", "[#a any | ..]", "[#a any | ..]", "[]"},
		{"[]", "[#a none | #b any | ..]", "[#a none | #b any | ..]", "[]"},
		// the same names
		{"[#a int]", "[#a int | ..]", "[#a int | ..]", "[#a int]"},
		{"[#a int]", "[#a str | ..]", "[#a any | ..]", "[#a none]"},
		{"[#a int]", "[#a any | ..]", "[#a any | ..]", "[#a int]"},
		{"[#a any]", "[#a int | ..]", "[#a any | ..]", "[#a int]"},
		{"[#a none]", "[#a int | ..]", "[#a int | ..]", "[#a none]"},
		{"[#a int]", "[#a none | ..]", "[#a int | ..]", "[#a none]"},
		{"[#a any]", "[#a any | ..]", "[#a any | ..]", "[#a any]"},
		// names that only one has
		{"[#a int]", "[#b str | ..]", "[#b str | ..]", "[#a int]"},
		{"[#b int]", "[#a str | ..]", "[#a str | ..]", "[#b int]"},
		{"[#a any]", "[#b none | ..]", "[#b none | ..]", "[#a any]"},
		{"[#a none]", "[#b any | ..]", "[#b any | ..]", "[#a none]"},
		{"[#a int]", "[#a str | #b int | ..]", "[#a any | #b int | ..]", "[#a none]"},
		{"[#a int | #b int]", "[#a str | ..]", "[#a any | ..]", "[#a none | #b int]"},
		{"[#a int | #b int]", "[#b str | ..]", "[#b any | ..]", "[#a int | #b none]"},
		{"[#a int | #b str]", "[#b str | #c any | ..]", "[#b str | #c any | ..]", "[#a int | #b str]"},
		{"[#a int | #b int | #d int]", "[#a any | #c str | #d {} | ..]", "[#a any | #c str | #d any | ..]", "[#a int | #b int | #d none]"},
		{"[#a int | #c int | #e int]", "[#b str | #d str | ..]", "[#b str | #d str | ..]", "[#a int | #c int | #e int]"},
		// kids that are made themselves
		{"[#a {b: int}]", "[#a {c: int} | ..]", "[#a {} | ..]", "[#a {b: int, c: int}]"},
		{"[#a [#b int]]", "[#a [#c int | ..] | ..]", "[#a [#c int | ..] | ..]", "[#a [#b int]]"},
		{"[#a [#b int | ..]]", "[#a [#c int] | ..]", "[#a [#b int | ..] | ..]", "[#a [#c int]]"},
		{"[#a (int -> int)]", "[#a (str -> int) | ..]", "[#a (none -> int) | ..]", "[#a (any -> int)]"},
	} {
		toldTexts(t, x[0], x[1], x[2], x[3])
	}
}

// P11.1: variants, both open.
func TestBothOpen(t *testing.T) {
	for _, x := range [][4]string{
		{"[..]", "[..]", "[..]", "[..]"},
		{"[..]", "[#a int | ..]", "[..]", "[#a int | ..]"},
		{"[..]", "[#a any | ..]", "[..]", "[#a any | ..]"},
		{"[..]", "[#a none | #b {} | ..]", "[..]", "[#a none | #b {} | ..]"},
		{"[#a int | ..]", "[#a int | ..]", "[#a int | ..]", "[#a int | ..]"},
		{"[#a int | ..]", "[#a str | ..]", "[#a any | ..]", "[#a none | ..]"},
		{"[#a int | ..]", "[#a any | ..]", "[#a any | ..]", "[#a int | ..]"},
		{"[#a int | ..]", "[#a none | ..]", "[#a int | ..]", "[#a none | ..]"},
		{"[#a any | ..]", "[#a any | ..]", "[#a any | ..]", "[#a any | ..]"},
		{"[#a int | ..]", "[#b int | ..]", "[..]", "[#a int | #b int | ..]"},
		{"[#a any | ..]", "[#b any | ..]", "[..]", "[#a any | #b any | ..]"},
		{"[#a any | ..]", "[#b int | ..]", "[..]", "[#a any | #b int | ..]"},
		{"[#a none | ..]", "[#b any | ..]", "[..]", "[#a none | #b any | ..]"},
		{"[#a int | ..]", "[#a str | #b int | ..]", "[#a any | ..]", "[#a none | #b int | ..]"},
		{"[#a int | ..]", "[#a int | #b any | ..]", "[#a int | ..]", "[#a int | #b any | ..]"},
		{"[#b int | ..]", "[#a int | #b int | #c int | ..]", "[#b int | ..]", "[#a int | #b int | #c int | ..]"},
		{"[#a int | #b int | ..]", "[#b str | #c int | ..]", "[#b any | ..]", "[#a int | #b none | #c int | ..]"},
		{"[#a int | #c int | ..]", "[#b int | #d int | ..]", "[..]", "[#a int | #b int | #c int | #d int | ..]"},
		{"[#a {b: int} | ..]", "[#a {c: int} | ..]", "[#a {} | ..]", "[#a {b: int, c: int} | ..]"},
		{"[#a [..] | ..]", "[#a [] | ..]", "[#a [..] | ..]", "[#a [] | ..]"},
		{"[#a [#b int | ..] | ..]", "[#a [#c int] | ..]", "[#a [#b int | ..] | ..]", "[#a [#c int] | ..]"},
	} {
		toldTexts(t, x[0], x[1], x[2], x[3])
	}
}

// P11.1: an open variant, and one that isn't, are of one kind, and of no other one.
func TestVariantsAndOthers(t *testing.T) {
	for _, one := range []string{"[]", "[..]", "[#a any | ..]", "[#a none]"} {
		for _, other := range []string{"{}", "{a: any}", "int", "dyn", "any -> any", "none -> any"} {
			toldTexts(t, one, other, "any", "none")
		}
	}
}

// P11.1: records and variants of every few names with every few, each name's kid of its own kind on each side, or of the same one.
func TestSomeNames(t *testing.T) {
	kinds := []string{"int", "any", "none", "{a: dyn}"}
	names := []string{"a", "aa", "b"}
	var texts []string
	for some := range 1 << len(names) {
		for shift := range kinds {
			var fields, cases []string
			for i, name := range names {
				if some&(1<<i) != 0 {
					kind := kinds[(i+shift)%len(kinds)]
					fields, cases = append(fields, name+": "+kind), append(cases, "#"+name+" "+kind)
				}
			}
			texts = append(texts, "{"+strings.Join(fields, ", ")+"}", "["+strings.Join(cases, " | ")+"]", "["+strings.Join(append(cases, ".."), " | ")+"]")
		}
	}
	for i, one := range texts {
		for _, other := range texts[i:] {
			asAnew(t, fmt.Sprint(one, " and ", other), of(t, one), of(t, other))
		}
	}
}
