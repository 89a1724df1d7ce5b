package print

import (
	"slices"
	"strings"
	"testing"

	"azimuth/api"
	"azimuth/parse"
	"azimuth/tree"
)

// piece is a term of a group, and its text.
type piece struct {
	group string
	text  string
	of    term
}

// pieces: each kind of term, of each group that the grammar tells.
func pieces() []piece {
	x, y := variable("x"), variable("y")
	l := []piece{
		{"atom", "x", x},
		{"atom", "7", number(7)},
		{"atom", "0", number(0)},
		{"atom", "true", truth(1)},
		{"atom", "false", truth(0)},
		{"atom", `"s"`, of(api.Str, "s")},
		{"atom", `""`, of(api.Str, "")},
		{"atom", "f'bff0000000000000", point(0xbff0000000000000)},
		{"atom", "{}", manned(api.Record, nil)},
		{"atom", "{a = x}", manned(api.Record, []string{"a"}, x)},
		{"atom", "{b = x, a = fun x -> y}", manned(api.Record, []string{"b", "a"}, x, of(api.Fun, "x", y))},
		{"atom", "(x : int)", held(x, basic(api.TInt))},
		{"atom", "(x : int -> int)", held(x, arrow(basic(api.TInt), basic(api.TInt)))},
		{"atom", "(fun x -> y : T => dyn)", held(of(api.Fun, "x", y), aliased("T"), basic(api.TDyn))},
		{"select", "x.a", of(api.Select, "a", x)},
		{"select", "(x y).a", of(api.Select, "a", of(api.App, "", x, y))},
		{"tag", "#a x", of(api.Tag, "a", x)},
		{"tag", "#if x", of(api.Tag, "if", x)},
		{"tag", "#a (#b x)", of(api.Tag, "a", of(api.Tag, "b", x))},
		{"app", "x y", of(api.App, "", x, y)},
		{"app", "#a x #b y", of(api.App, "", of(api.Tag, "a", x), of(api.Tag, "b", y))},
		{"open", "fun x -> y", of(api.Fun, "x", y)},
		{"open", "let x = y in x", of(api.Let, "x", y, x)},
		{"open", "let rec x = y in x", of(api.LetRec, "x", y, x)},
		{"open", "if x then y else x", of(api.If, "", x, y, x)},
		{"open", "case x of end", manned(api.Case, nil, x)},
		{"open", "case x of | #a y -> y end", manned(api.Case, []string{"a", "y"}, x, y)},
		{"open", "case x of | #a y -> y | else -> x end", manned(api.Case, []string{"a", "y"}, x, y, x)},
		{"open", "case x of | else -> x end", manned(api.Case, nil, x, x)},
	}
	for group, signs := range signsOf() {
		for _, sign := range strings.Fields(signs) {
			l = append(l, piece{group, "x " + sign + " y", of(api.Op, sign, x, y)})
		}
	}
	return l
}

func signsOf() map[string]string {
	return map[string]string{"product": "* / *. /.", "sum": "+ - +. -.", "join": "^", "compare": "== < <."}
}

// slot is a place where a term may stand: the text around it, and which groups stand there in brackets.
type slot struct {
	around   string
	brackets string
	of       func(x term) term
}

const (
	noBracket = ""
	unlessApp = "product sum join compare open"
	onlyUnit  = "app " + unlessApp
	onlyPost  = "tag " + onlyUnit
)

// slots: each place in each kind of term, and the whole.
func slots() []slot {
	x, y := variable("v"), variable("w")
	l := []slot{
		{"%", noBracket, func(z term) term { return z }},
		{"fun v -> %", noBracket, func(z term) term { return of(api.Fun, "v", z) }},
		{"let v = % in w", noBracket, func(z term) term { return of(api.Let, "v", z, y) }},
		{"let v = w in %", noBracket, func(z term) term { return of(api.Let, "v", y, z) }},
		{"let rec v = % in w", noBracket, func(z term) term { return of(api.LetRec, "v", z, y) }},
		{"let rec v = w in %", noBracket, func(z term) term { return of(api.LetRec, "v", y, z) }},
		{"if % then v else w", noBracket, func(z term) term { return of(api.If, "", z, x, y) }},
		{"if v then % else w", noBracket, func(z term) term { return of(api.If, "", x, z, y) }},
		{"if v then w else %", noBracket, func(z term) term { return of(api.If, "", x, y, z) }},
		{"case % of end", noBracket, func(z term) term { return manned(api.Case, nil, z) }},
		{"case % of | else -> w end", noBracket, func(z term) term { return manned(api.Case, nil, z, y) }},
		{"case v of | else -> % end", noBracket, func(z term) term { return manned(api.Case, nil, x, z) }},
		{"case v of | #a b -> % end", noBracket, func(z term) term { return manned(api.Case, []string{"a", "b"}, x, z) }},
		{"case v of | #a b -> % | #b a -> w end", noBracket, func(z term) term { return manned(api.Case, []string{"a", "b", "b", "a"}, x, z, y) }},
		{"case v of | #a b -> w | #b a -> % | else -> v end", noBracket, func(z term) term {
			return manned(api.Case, []string{"a", "b", "b", "a"}, x, y, z, x)
		}},
		{"case v of | #a b -> w | else -> % end", noBracket, func(z term) term { return manned(api.Case, []string{"a", "b"}, x, y, z) }},
		{"{a = %}", noBracket, func(z term) term { return manned(api.Record, []string{"a"}, z) }},
		{"{a = %, b = w}", noBracket, func(z term) term { return manned(api.Record, []string{"a", "b"}, z, y) }},
		{"{a = v, b = %}", noBracket, func(z term) term { return manned(api.Record, []string{"a", "b"}, x, z) }},
		{"(% : T)", noBracket, func(z term) term { return held(z, aliased("T")) }},
		{"(% : T => S)", noBracket, func(z term) term { return held(z, aliased("T"), aliased("S")) }},
		{"% w", unlessApp, func(z term) term { return of(api.App, "", z, y) }},
		{"v %", onlyUnit, func(z term) term { return of(api.App, "", x, z) }},
		{"v % w", onlyUnit, func(z term) term { return of(api.App, "", of(api.App, "", x, z), y) }},
		{"#t %", onlyPost, func(z term) term { return of(api.Tag, "t", z) }},
		{"#then %", onlyPost, func(z term) term { return of(api.Tag, "then", z) }},
		{"%.l", onlyPost, func(z term) term { return of(api.Select, "l", z) }},
		{"%.l.m", onlyPost, func(z term) term { return of(api.Select, "m", of(api.Select, "l", z)) }},
	}
	left := map[string]string{"product": "sum join compare open", "sum": "join compare open", "join": "compare open", "compare": "compare open"}
	right := map[string]string{"product": unlessApp, "sum": "sum join compare open", "join": "join compare open", "compare": "compare open"}
	for group, signs := range signsOf() {
		for _, sign := range strings.Fields(signs) {
			l = append(l, slot{"% " + sign + " w", left[group], func(z term) term { return of(api.Op, sign, z, y) }})
			l = append(l, slot{"v " + sign + " %", right[group], func(z term) term { return of(api.Op, sign, x, z) }})
		}
	}
	return l
}

// P6.1, P6.2: each kind of term at each place of each kind: in brackets just where the rule that stands there doesn't tell it.
func TestEachInEach(t *testing.T) {
	for _, s := range slots() {
		for _, p := range pieces() {
			x := laid(s.of(p.of))
			bare := strings.Replace(s.around, "%", p.text, 1)
			inBrackets := strings.Replace(s.around, "%", "("+p.text+")", 1)
			if !slices.Contains(strings.Fields(s.brackets), p.group) {
				prints(t, x, bare)
				continue
			}
			prints(t, x, inBrackets)
			if y, d := parse.Text([]byte(bare)); d.Error == api.OK && tree.Same(x, y) {
				t.Errorf("%q needs no brackets", inBrackets)
			}
		}
	}
}

// P6.1: three kinds in one another: what stands between two doesn't change what stands where.
func TestThreeInEachOther(t *testing.T) {
	for _, s := range slots() {
		for _, u := range slots() {
			for _, p := range pieces() {
				inner, e := Text(laid(u.of(p.of)))
				if e != api.OK {
					t.Fatal(e)
				}
				x := laid(s.of(u.of(p.of)))
				b, e := Text(x)
				bare, inBrackets := strings.Replace(s.around, "%", string(inner), 1), strings.Replace(s.around, "%", "("+string(inner)+")", 1)
				if e != api.OK || string(b) != bare && string(b) != inBrackets {
					t.Errorf("%q, %d: it is %q, or %q", b, e, bare, inBrackets)
				}
				if y, d := parse.Text(b); d.Error != api.OK || !tree.Same(x, y) {
					t.Errorf("%q is parsed to another tree, %v", b, d)
				}
				if y, d := parse.Text([]byte(bare)); (d.Error == api.OK && tree.Same(x, y)) != (string(b) == bare) {
					t.Errorf("%q, and %q", b, bare)
				}
			}
		}
	}
}

// typePiece is a type, and its text.
type typePiece struct {
	text string
	of   typed
}

func typePieces() []typePiece {
	n, b := basic(api.TInt), basic(api.TBool)
	return []typePiece{
		{"int", n}, {"bool", b}, {"str", basic(api.TStr)}, {"float", basic(api.TFloat)},
		{"dyn", basic(api.TDyn)}, {"any", basic(api.TAny)}, {"none", basic(api.TNone)},
		{"T", aliased("T")},
		{"{}", fields(nil)},
		{"{a: int}", fields([]string{"a"}, n)},
		{"{b: int, a: bool -> int}", fields([]string{"b", "a"}, n, arrow(b, n))},
		{"[]", variant(false, nil)},
		{"[..]", variant(true, nil)},
		{"[#a int]", variant(false, []string{"a"}, n)},
		{"[#in int | ..]", variant(true, []string{"in"}, n)},
		{"[#b int | #a (bool -> int)]", variant(false, []string{"b", "a"}, n, arrow(b, n))},
		{"[#b int | #a [] | ..]", variant(true, []string{"b", "a"}, n, variant(false, nil))},
		{"int -> bool", arrow(n, b)},
		{"{} -> [] -> T", arrow(fields(nil), arrow(variant(false, nil), aliased("T")))},
		{"(int -> int) -> T", arrow(arrow(n, n), aliased("T"))},
	}
}

// typeSlot is a place where a type may stand; arrows stand there in brackets, or not.
type typeSlot struct {
	around   string
	brackets bool
	of       func(x typed) typed
}

func typeSlots() []typeSlot {
	n := basic(api.TInt)
	return []typeSlot{
		{"%", false, func(x typed) typed { return x }},
		{"% -> int", true, func(x typed) typed { return arrow(x, n) }},
		{"int -> %", false, func(x typed) typed { return arrow(n, x) }},
		{"int -> % -> int", true, func(x typed) typed { return arrow(n, arrow(x, n)) }},
		{"int -> int -> %", false, func(x typed) typed { return arrow(n, arrow(n, x)) }},
		{"{l: %}", false, func(x typed) typed { return fields([]string{"l"}, x) }},
		{"{m: %, l: int}", false, func(x typed) typed { return fields([]string{"m", "l"}, x, n) }},
		{"{m: int, l: %}", false, func(x typed) typed { return fields([]string{"m", "l"}, n, x) }},
		{"[#l %]", true, func(x typed) typed { return variant(false, []string{"l"}, x) }},
		{"[#l % | ..]", true, func(x typed) typed { return variant(true, []string{"l"}, x) }},
		{"[#m % | #type int]", true, func(x typed) typed { return variant(false, []string{"m", "type"}, x, n) }},
		{"[#m int | #type % | ..]", true, func(x typed) typed { return variant(true, []string{"m", "type"}, n, x) }},
	}
}

// P6.1, P6.2: each kind of type at each place of each kind, in terms and aliases.
func TestEachTypeInEach(t *testing.T) {
	for _, s := range typeSlots() {
		for _, p := range typePieces() {
			x := s.of(p.of)
			bare := strings.Replace(s.around, "%", p.text, 1)
			want := bare
			if s.brackets && strings.Contains(p.text, "->") && p.of.head.Kind == api.TFun {
				want = strings.Replace(s.around, "%", "("+p.text+")", 1)
				if y, d := parse.Text([]byte("(x : " + bare + ")")); d.Error == api.OK && tree.Same(laid(held(variable("x"), x)), y) {
					t.Errorf("%q needs no brackets", want)
				}
			}
			printsType(t, x, want)
			prints(t, laid(held(variable("x"), x)), "(x : "+want+")")
			prints(t, laid(held(variable("x"), x, aliased("T"))), "(x : "+want+" => T)")
			prints(t, laid(held(variable("x"), aliased("T"), x)), "(x : T => "+want+")")
			prints(t, laid(number(1), named{name: "A", of: x}), "type A = "+want+";\n1")
			prints(t, laid(of(api.App, "", variable("f"), held(number(1), x)), named{"A", aliased("B")}, named{"B2", x}), "type A = B;\ntype B2 = "+want+";\nf (1 : "+want+")")
		}
	}
}
