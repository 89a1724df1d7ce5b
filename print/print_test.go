package print

import (
	"math"
	"strings"
	"testing"

	"azimuth/api"
	"azimuth/parse"
)

// P6.1, P6.2: texts with blanks and brackets of any kind, and as they are printed.
func TestTexts(t *testing.T) {
	for in, want := range map[string]string{
		// what the chapter tells of blanks
		"((f) (x)) + (1)":               "f x + 1",
		" ( fun x->\n(e) )":             "fun x -> e",
		"let x=e in e":                  "let x = e in e",
		"let\trec f=e in e":             "let rec f = e in e",
		"if a then(b)else c//":          "if a then b else c",
		"case(e)of|#a x->e|else->e end": "case e of | #a x -> e | else -> e end",
		"{a=e,b=e}":                     "{a = e, b = e}",
		"{ }":                           "{}",
		"( e:T )":                       "(e : T)",
		"(e:S=>T)":                      "(e : S => T)",
		"#a(e)":                         "#a e",
		"f(e)":                          "f e",
		"(e) . a":                       "e.a",
		"(a)+(b)":                       "a + b",
		"(e:(int)->(int))":              "(e : int -> int)",
		"(e:{a:T,b:T})":                 "(e : {a: T, b: T})",
		"(e:[#a T|#b(T)|..])":           "(e : [#a T | #b T | ..])",
		"(e:[ ])":                       "(e : [])",
		"(e:[ .. ])":                    "(e : [..])",
		"(e:{ })":                       "(e : {})",
		// nothing, one and many
		"{a=(1)}":                       "{a = 1}",
		"{b=1,a=2,c=3,z0=4}":            "{b = 1, a = 2, c = 3, z0 = 4}",
		"(e:{a:(T)})":                   "(e : {a: T})",
		"(e:{b:T,a:S,c:R,_:Q})":         "(e : {b: T, a: S, c: R, _: Q})",
		"(e:[#a T])":                    "(e : [#a T])",
		"(e:[#a T|..])":                 "(e : [#a T | ..])",
		"(e:[#b T|#a T])":               "(e : [#b T | #a T])",
		"(e:[#b T|#a S|#c R])":          "(e : [#b T | #a S | #c R])",
		"(e:[#b T|#a S|#c R|..])":       "(e : [#b T | #a S | #c R | ..])",
		"case e of end":                 "case e of end",
		"case e of|else->1 end":         "case e of | else -> 1 end",
		"case e of|#a x->1 end":         "case e of | #a x -> 1 end",
		"case e of|#b x->1|#a x->2 end": "case e of | #b x -> 1 | #a x -> 2 end",
		"case e of|#c x->x|#b y->2|#a _->3|else->4 end": "case e of | #c x -> x | #b y -> 2 | #a _ -> 3 | else -> 4 end",
		// tags that are words
		"#let x":                           "#let x",
		"#else(#end x)":                    "#else (#end x)",
		"case e of|#else x->1|else->2 end": "case e of | #else x -> 1 | else -> 2 end",
		"(e:[#of T|#type(T)|#int int])":    "(e : [#of T | #type T | #int int])",
		// rows to the left
		"a b c d":           "a b c d",
		"((a b) c) d":       "a b c d",
		"a(b c)d":           "a (b c) d",
		"a(b(c d))":         "a (b (c d))",
		"(a b)(c d)":        "a b (c d)",
		"(1-2)-3":           "1 - 2 - 3",
		"1-(2-3)":           "1 - (2 - 3)",
		"((1*2)/3)*.4/.5":   "1 * 2 / 3 *. 4 /. 5",
		"1*(2/(3*.(4/.5)))": "1 * (2 / (3 *. (4 /. 5)))",
		"((1+2)-3)+.4-.5":   "1 + 2 - 3 +. 4 -. 5",
		"1+(2-(3+.(4-.5)))": "1 + (2 - (3 +. (4 -. 5)))",
		"((a^b)^c)^d":       "a ^ b ^ c ^ d",
		"a^(b^(c^d))":       "a ^ (b ^ (c ^ d))",
		"(a^b)^(c^d)":       "a ^ b ^ (c ^ d)",
		// mixed with those above and below
		"(1*2)+(3*4)":          "1 * 2 + 3 * 4",
		"(1+2)*(3+4)":          "(1 + 2) * (3 + 4)",
		"(a^b)+(c^d)":          "(a ^ b) + (c ^ d)",
		"(a+b)^(c+d)":          "a + b ^ c + d",
		"((1*2)+3)^((4-5)/6)":  "1 * 2 + 3 ^ (4 - 5) / 6",
		"((f x)*(g y))+(h z)":  "f x * g y + h z",
		"f(x*g)(y+h)z":         "f (x * g) (y + h) z",
		"(f*x)g":               "(f * x) g",
		"(a+(b*c))==(d^(e f))": "a + b * c == d ^ e f",
		"(a==b)+(c<d)":         "(a == b) + (c < d)",
		"((a))<.(b)":           "a <. b",
		// a compare has one sign
		"(a==b)==c":    "(a == b) == c",
		"a==(b==c)":    "a == (b == c)",
		"(a<b)<.(c<d)": "(a < b) <. (c < d)",
		"(a<b)^(c<d)":  "(a < b) ^ (c < d)",
		// selects and tags
		"((a.b).c).d":           "a.b.c.d",
		"(f x).a":               "(f x).a",
		"f(x.a)":                "f x.a",
		"(f x.a).b":             "(f x.a).b",
		"(#a x).b":              "(#a x).b",
		"#a(x.b)":               "#a x.b",
		"(#a x)(#b y)":          "#a x #b y",
		"#a(x y)":               "#a (x y)",
		"#a(#b(#c{}))":          "#a (#b (#c {}))",
		"f(#a x)y":              "f #a x y",
		"{a=1}.a":               "{a = 1}.a",
		"1 . a":                 "1.a",
		"true.a":                "true.a",
		`"s".a`:                 `"s".a`,
		"(x:T).a.b":             "(x : T).a.b",
		"f'0000000000000000 .a": "f'0000000000000000.a",
		// the two ascriptions in one another
		"((x:T):S)":                            "((x : T) : S)",
		"((x:T=>S):R)":                         "((x : T => S) : R)",
		"((x:T):S=>R)":                         "((x : T) : S => R)",
		"f(x:T)(y:T=>S)":                       "f (x : T) (y : T => S)",
		"((fun x->x):T->T)":                    "(fun x -> x : T -> T)",
		"(fun x->(x:T))":                       "fun x -> (x : T)",
		"((1+2):int=>dyn)":                     "(1 + 2 : int => dyn)",
		"(x:(int->int)->int=>int->(int->int))": "(x : (int -> int) -> int => int -> int -> int)",
		// what reaches as far as can be
		"fun x->(fun y->(x y))":                "fun x -> fun y -> x y",
		"(fun x->x)(fun y->y)":                 "(fun x -> x) (fun y -> y)",
		"(fun x->x)+1":                         "(fun x -> x) + 1",
		"fun x->(x+1)":                         "fun x -> x + 1",
		"let x=(let y=1 in y)in(let z=2 in z)": "let x = let y = 1 in y in let z = 2 in z",
		"if(if a then b else c)then(if d then e else f)else(if g then h else i)":       "if if a then b else c then if d then e else f else if g then h else i",
		"case(case a of end)of|#b c->(case d of|#e f->g end)|else->(case h of end)end": "case case a of end of | #b c -> case d of | #e f -> g end | else -> case h of end end",
		"{a=(fun x->x),b=(let y=1 in y)}":                                              "{a = fun x -> x, b = let y = 1 in y}",
		"(case e of end)x":                                                             "(case e of end) x",
		"(case e of end).l":                                                            "(case e of end).l",
		"(if a then b else c).l":                                                       "(if a then b else c).l",
		// arrows to the right
		"(e:T->(S->R))":           "(e : T -> S -> R)",
		"(e:(T->S)->R)":           "(e : (T -> S) -> R)",
		"(e:((T->S)->R)->(Q->P))": "(e : ((T -> S) -> R) -> Q -> P)",
		"(e:[#a(T->S)|#b((T))])":  "(e : [#a (T -> S) | #b T])",
		"(e:{a:(T->S)}->[..])":    "(e : {a: T -> S} -> [..])",
		// aliases
		"type A=int;1":                            "type A = int;\n1",
		"type A=(int->int)->B;type B1=[#a{}];x":   "type A = (int -> int) -> B;\ntype B1 = [#a {}];\nx",
		"type A=A;type A=B;fun x->x":              "type A = A;\ntype A = B;\nfun x -> x",
		"type B=int;type A=bool;type C=str;(x:A)": "type B = int;\ntype A = bool;\ntype C = str;\n(x : A)",
	} {
		prints(t, read(t, in), want)
		prints(t, read(t, want), want)
	}
}

// P6.1: numbers, from 0 to the greatest.
func TestNumbers(t *testing.T) {
	for n, want := range map[int64]string{
		0: "0", 1: "1", 9: "9", 10: "10", 1000000: "1000000",
		math.MaxInt64 - 1: "9223372036854775806", math.MaxInt64: "9223372036854775807",
	} {
		prints(t, laid(number(n)), want)
		prints(t, laid(of(api.Select, "a", number(n))), want+".a")
		prints(t, laid(of(api.App, "", number(n), number(n))), want+" "+want)
		prints(t, laid(of(api.Op, "-", number(n), number(n))), want+" - "+want)
	}
	prints(t, laid(truth(0)), "false")
	prints(t, laid(truth(1)), "true")
}

// P6.1: floats of each kind, by their bits.
func TestFloats(t *testing.T) {
	for _, text := range []string{
		"f'0000000000000000", "f'8000000000000000", // noughts
		"f'3ff0000000000000", "f'bff0000000000000", "f'7fefffffffffffff", "f'ffefffffffffffff", "f'3fd3333333333334", "f'400921fb54442d18",
		"f'0000000000000001", "f'800fffffffffffff", // as small as can be
		"f'7ff0000000000000", "f'fff0000000000000", // without end
		"f'7ff8000000000001", // none
	} {
		prints(t, laid(point(bitsOf(t, text))), text)
		prints(t, laid(of(api.App, "", variable("f"), point(bitsOf(t, text)))), "f "+text)
		prints(t, laid(of(api.Select, "f", point(bitsOf(t, text)))), text+".f")
	}
}

// P6.1: strings, with each sign that is written in another way, and those that could seem to be.
func TestStrings(t *testing.T) {
	for s, want := range map[string]string{
		"":                       `""`,
		"s":                      `"s"`,
		"\\":                     `"\\"`,
		"\"":                     `"\""`,
		"\n":                     `"\n"`,
		"n":                      `"n"`,
		"\\n":                    `"\\n"`,
		"\\\n\"\"\n\\\\":         `"\\\n\"\"\n\\\\"`,
		"a\nb":                   `"a\nb"`,
		"// (no blank)":          `"// (no blank)"`,
		"let in { } ( )":         `"let in { } ( )"`,
		"' # | ->":               `"' # | ->"`,
		"\x7f\u0080\u20ac\ufffd": "\"\x7f\u0080\u20ac\ufffd\"",
		"\ufeff\u2028\U0010ffff": "\"\ufeff\u2028\U0010ffff\"",
		" \u00e9 e\u0301 ":       "\" \u00e9 e\u0301 \"",
	} {
		prints(t, laid(of(api.Str, s)), want)
		prints(t, laid(of(api.Op, "^", of(api.Str, s), of(api.Str, s))), want+" ^ "+want)
		prints(t, laid(of(api.Select, "l", of(api.Str, s))), want+".l")
	}
	for c := ' '; c < 0x3000; c++ {
		s := string(c)
		if c != '"' && c != '\\' {
			prints(t, laid(of(api.Str, s)), `"`+s+`"`)
		}
	}
}

// P6.1: names, tags and aliases of each kind of sign, and long ones.
func TestNames(t *testing.T) {
	long := strings.Repeat("ab9_", 5000)
	for _, name := range []string{"x", "_", "__9", "f", "x1", "e0", "lets", "in_", "f1", "z0_0", "o" + long} {
		prints(t, laid(variable(name)), name)
		prints(t, laid(of(api.Fun, name, variable(name))), "fun "+name+" -> "+name)
		prints(t, laid(of(api.Let, name, number(1), variable(name))), "let "+name+" = 1 in "+name)
		prints(t, laid(of(api.LetRec, name, number(1), variable(name))), "let rec "+name+" = 1 in "+name)
		prints(t, laid(of(api.Select, name, variable(name))), name+"."+name)
		prints(t, laid(of(api.Tag, name, variable(name))), "#"+name+" "+name)
		prints(t, laid(manned(api.Record, []string{name}, variable(name))), "{"+name+" = "+name+"}")
		prints(t, laid(manned(api.Case, []string{name, name}, number(1), variable(name))), "case 1 of | #"+name+" "+name+" -> "+name+" end")
		printsType(t, fields([]string{name}, basic(api.TInt)), "{"+name+": int}")
		printsType(t, variant(false, []string{name}, basic(api.TInt)), "[#"+name+" int]")
	}
	for _, word := range strings.Fields("fun let rec in if then else case of end true false int bool str float dyn any none type") {
		prints(t, laid(of(api.Tag, word, variable("x"))), "#"+word+" x")
		prints(t, laid(manned(api.Case, []string{word, "x"}, number(1), variable("x"))), "case 1 of | #"+word+" x -> x end")
		printsType(t, variant(true, []string{word}, basic(api.TInt)), "[#"+word+" int | ..]")
	}
	for _, name := range []string{"A", "Z", "AB", "Int", "A0z9Z", "L" + strings.ReplaceAll(long, "_", "Z")} {
		printsType(t, aliased(name), name)
		prints(t, laid(held(number(1), aliased(name)), named{name: name, of: aliased(name)}), "type "+name+" = "+name+";\n(1 : "+name+")")
	}
}

// P6.1: each kind of type by itself.
func TestTypes(t *testing.T) {
	for kind, want := range map[int]string{
		api.TInt: "int", api.TBool: "bool", api.TStr: "str", api.TFloat: "float",
		api.TDyn: "dyn", api.TAny: "any", api.TNone: "none",
	} {
		printsType(t, basic(kind), want)
		prints(t, laid(held(number(1), basic(kind))), "(1 : "+want+")")
		prints(t, laid(held(number(1), basic(kind), basic(kind))), "(1 : "+want+" => "+want+")")
	}
	printsType(t, aliased("T"), "T")
	printsType(t, fields(nil), "{}")
	printsType(t, variant(false, nil), "[]")
	printsType(t, variant(true, nil), "[..]")
	printsType(t, arrow(basic(api.TInt), basic(api.TBool)), "int -> bool")
}

// P6.1: Term and Type: of any of them, without brackets around it, and without aliases.
func TestEach(t *testing.T) {
	x := read(t, "type A = [#a (int -> bool)]; (f (fun x -> x + 1) : (A -> A) -> {b: str}).l * (1 + 2)")
	terms := map[string]int{}
	for i := range x.Nodes {
		b, e := Term(x, i)
		if e != api.OK {
			t.Error(i, e)
		}
		terms[string(b)]++
		y, d := parse.Text(b)
		if d.Error != api.OK || !same(termOf(x, i), termOf(y, len(y.Nodes)-1)) {
			t.Errorf("%q, %v", b, d)
		}
	}
	wantAll(t, terms, "f", "x", "1", "x + 1", "fun x -> x + 1", "f (fun x -> x + 1)", "(f (fun x -> x + 1) : (A -> A) -> {b: str})",
		"(f (fun x -> x + 1) : (A -> A) -> {b: str}).l", "1", "2", "1 + 2", "(f (fun x -> x + 1) : (A -> A) -> {b: str}).l * (1 + 2)")
	types := map[string]int{}
	for i := range x.Types {
		b, e := Type(x, i)
		if e != api.OK {
			t.Error(i, e)
		}
		types[string(b)]++
		y, d := parse.Type(b)
		if d.Error != api.OK || !sameType(x, i, y, len(y.Types)-1) {
			t.Errorf("%q, %v", b, d)
		}
	}
	wantAll(t, types, "int", "bool", "int -> bool", "[#a (int -> bool)]", "A", "A", "A -> A", "str", "{b: str}", "(A -> A) -> {b: str}")
}

// same: are two terms the same, but for places?
func same(a, b term) bool {
	x, e := Text(laid(a))
	y, f := Text(laid(b))
	return e == api.OK && f == api.OK && string(x) == string(y)
}

func wantAll(t *testing.T, got map[string]int, want ...string) {
	t.Helper()
	for _, s := range want {
		got[s]--
	}
	for s, n := range got {
		if n != 0 {
			t.Errorf("%q: %d more than there should be", s, n)
		}
	}
}
