package alike_test

import "testing"

// P10.1: variants, open and not, to open ones and not, and back.
func TestVariants(t *testing.T) {
	for _, x := range []struct {
		one, other  string
		there, back bool
	}{
		// none open: names of which the other one hasn't all the same
		{"[]", "[]", true, true},
		{"[]", "[#a int]", true, true},
		{"[]", "[#a none]", true, true},
		{"[]", "[#a any | #b dyn]", true, true},
		{"[#a int]", "[#a int]", true, true},
		{"[#a int]", "[#b int]", true, true},
		{"[#a int]", "[#b str | #c any]", true, true},
		{"[#a int]", "[#a any]", true, false},
		{"[#a none]", "[#a int]", true, false},
		{"[#a int]", "[#a str]", false, false},
		{"[#a int]", "[#a dyn]", true, true},
		{"[#a any]", "[#a dyn]", false, true},
		{"[#a int]", "[#a int | #b int]", true, true},
		{"[#b int]", "[#a int | #b int]", true, true},
		{"[#c int]", "[#a int | #b int]", true, true},
		{"[#a any]", "[#a int | #b int]", false, true},
		{"[#a int]", "[#a str | #b int]", false, false},
		{"[#a int | #b str]", "[#b str | #a int]", true, true},
		{"[#a int | #b str]", "[#a str | #b int]", false, false},
		{"[#a int | #b str]", "[#a dyn]", true, true},
		{"[#a int | #b str]", "[#a dyn | #b int]", false, false},
		{"[#a int | #b str]", "[#a dyn | #b dyn]", true, true},
		{"[#a int | #c int]", "[#a int | #b any | #c str]", false, false},
		{"[#a int | #b int]", "[#b int | #c int]", true, true},
		{"[#a int | #b int]", "[#b str | #c int]", false, false},
		{"[#a int | #b int]", "[#b any | #c int]", true, false},
		{"[#a [#b int]]", "[#a [#b int | #c int]]", true, true},
		{"[#a [#b int]]", "[#a [#b str | #c int]]", false, false},
		{"[#a [#b int]]", "[#a [#c int]]", true, true},
		// the one not, the other one open: back, what the other one hasn't must mean any
		{"[]", "[..]", true, true},
		{"[]", "[#a int | ..]", true, true},
		{"[]", "[#a none | #b any | ..]", true, true},
		{"[#a int]", "[..]", true, false},
		{"[#a any]", "[..]", true, true},
		{"[#a dyn]", "[..]", true, false},
		{"[#a none]", "[..]", true, false},
		{"[#a int | #b str]", "[..]", true, false},
		{"[#a any | #b any]", "[..]", true, true},
		{"[#a any | #b str]", "[..]", true, false},
		{"[#a str | #b any]", "[..]", true, false},
		{"[#a int]", "[#a int | ..]", true, true},
		{"[#a int]", "[#a any | ..]", true, false},
		{"[#a int]", "[#a str | ..]", false, false},
		{"[#a any]", "[#a int | ..]", false, true},
		{"[#a dyn]", "[#a int | ..]", true, true},
		{"[#a int]", "[#b int | ..]", true, false},
		{"[#a any]", "[#b int | ..]", true, true},
		{"[#a int]", "[#a int | #b int | ..]", true, true},
		{"[#a int | #b str]", "[#a int | ..]", true, false},
		{"[#a int | #b any]", "[#a int | ..]", true, true},
		{"[#a int | #b any]", "[#a str | ..]", false, false},
		{"[#a any | #b str]", "[#b str | ..]", true, true},
		{"[#a any | #b str | #c any]", "[#b dyn | ..]", true, true},
		{"[#a any | #b str | #c int]", "[#b str | ..]", true, false},
		{"[#a int | #b str | #c any]", "[#b str | ..]", true, false},
		{"[#a int | #b str]", "[#b int | ..]", false, false},
		{"[#a any | #b any]", "[#a any | #b any | ..]", true, true},
		// both open
		{"[..]", "[..]", true, true},
		{"[#a int | ..]", "[..]", true, false},
		{"[#a none | ..]", "[..]", true, false},
		{"[#a dyn | ..]", "[..]", true, false},
		{"[#a {} | ..]", "[..]", true, false},
		{"[#a [..] | ..]", "[..]", true, false},
		{"[#a any | ..]", "[..]", true, true},
		{"[#a any | #b any | ..]", "[..]", true, true},
		{"[#a any | #b any | ..]", "[#b any | ..]", true, true},
		{"[#a any | ..]", "[#b any | ..]", true, true},
		{"[#a any | #b int | ..]", "[..]", true, false},
		{"[#a any | #b int | ..]", "[#b int | #c any | ..]", true, true},
		{"[#a any | #b int | ..]", "[#b int | #c int | ..]", false, true},
		{"[#a int | ..]", "[#a int | ..]", true, true},
		{"[#a int | ..]", "[#a any | ..]", true, false},
		{"[#a int | ..]", "[#a str | ..]", false, false},
		{"[#a int | ..]", "[#a dyn | ..]", true, true},
		{"[#a int | ..]", "[#b int | ..]", false, false},
		{"[#a int | ..]", "[#b any | ..]", true, false},
		{"[#a int | ..]", "[#a int | #b any | ..]", true, true},
		{"[#a int | ..]", "[#a int | #b int | ..]", false, true},
		{"[#b int | ..]", "[#a any | #b int | #c any | ..]", true, true},
		{"[#b int | ..]", "[#a any | #b dyn | #c int | ..]", false, true},
		{"[#b int | ..]", "[#a int | #b dyn | #c any | ..]", false, true},
		{"[#b int | ..]", "[#a any | #b str | #c any | ..]", false, false},
		{"[#a int | #c int | ..]", "[#a int | #b any | #c int | ..]", true, true},
		{"[#a int | #c int | ..]", "[#b any | #d dyn | ..]", false, false},
		{"[#a int | #b str | ..]", "[#a any | #b any | ..]", true, false},
		// other kinds
		{"[..]", "{}", false, false},
		{"[#a int]", "{a: int}", false, false},
		{"[..]", "int -> int", false, false},
		{"[]", "int", false, false},
		{"[]", "none", false, true},
		{"[..]", "none", false, true},
		{"[..]", "any", true, false},
	} {
		told(t, x.one+" and "+x.other, of(t, x.one), of(t, x.other), x.there, x.back)
	}
}

// P10.1: variants to dyn, of which none may be open, and from dyn, of which each may.
func TestVariantsAndDyn(t *testing.T) {
	for _, x := range []struct {
		text     string
		to, from bool
	}{
		{"[]", true, true},
		{"[..]", false, true},
		{"[#a int]", true, true},
		{"[#a int | ..]", false, true},
		{"[#a dyn]", true, true},
		{"[#a dyn | ..]", false, true},
		{"[#a none]", true, true},
		{"[#a any]", false, true},
		{"[#a any | ..]", false, true},
		{"[#a int | #b any]", false, true},
		{"[#a any | #b int]", false, true},
		{"[#a int | #b str | #c float]", true, true},
		{"[#a {} | #b [] | #c (int -> int)]", true, true},
		{"[#a (any -> int)]", true, false},
		{"[#a (any -> int) | ..]", false, false},
		{"[#a (int -> any)]", false, true},
		{"[#a [..]]", false, true},
		{"[#a ([..] -> int)]", true, false},
		{"[#a [#a int]]", true, true},
		{"[#a {a: any} | #b int]", false, true},
		{"[#a int | #b ({a: any} -> int)]", true, false},
	} {
		dynTold(t, x.text, of(t, x.text), x.to, x.from)
	}
}
