package parse

import (
	"fmt"
	"strconv"
	"strings"
	"testing"

	"azimuth/api"
	"azimuth/tree"
)

var kindNames = [api.Kinds]string{"Var", "Int", "Bool", "Str", "Float", "Fun", "App", "Let", "LetRec", "If", "Case", "Tag", "Record", "Select", "Op", "Ascribe", "Cast"}

var typeNames = [api.TKinds]string{"TInt", "TBool", "TStr", "TFloat", "TDyn", "TAny", "TNone", "TFun", "TRecord", "TVariant", "TAlias"}

// shown tells all of a term, and what it is made of: its kind, its place, and what else it has.
func shown(t api.Tree, i int) string {
	n := t.Nodes[i]
	s := kindNames[n.Kind] + "@" + strconv.Itoa(n.Pos)
	if n.Kind == api.Str {
		s += strconv.Quote(n.Name)
	} else {
		s += field(n.Name)
	}
	if n.Int != 0 {
		s += " " + strconv.FormatInt(n.Int, 10)
	}
	if n.Bits != 0 {
		s += " " + strconv.FormatUint(n.Bits, 16)
	}
	s += field(strings.Join(n.Names, ","))
	s += inBrackets("()", n.Kids, func(i int) string { return shown(t, i) })
	return s + inBrackets("::", n.Types, func(i int) string { return shownType(t, i) })
}

func shownType(t api.Tree, i int) string {
	n := t.Types[i]
	s := typeNames[n.Kind] + "@" + strconv.Itoa(n.Pos) + field(n.Name) + field(strings.Join(n.Names, ","))
	if n.Open {
		s += " open"
	}
	return s + inBrackets("()", n.Kids, func(i int) string { return shownType(t, i) })
}

func field(s string) string {
	if s == "" {
		return ""
	}
	return " " + s
}

func inBrackets(brackets string, l []int, shown func(i int) string) string {
	if len(l) == 0 {
		return ""
	}
	var parts []string
	for _, i := range l {
		parts = append(parts, shown(i))
	}
	return brackets[:1] + strings.Join(parts, ", ") + brackets[1:]
}

// shownTree tells all of a tree, of which the last term, or else the last type, is the whole.
func shownTree(t api.Tree) string {
	s := ""
	for _, a := range t.Aliases {
		s += fmt.Sprintf("%s@%d = %s; ", a.Name, a.Pos, shownType(t, a.Type))
	}
	if len(t.Nodes) > 0 {
		return s + shown(t, len(t.Nodes)-1)
	}
	return s + shownType(t, len(t.Types)-1)
}

// reads looks whether texts have just these trees. They stand by turns: a text, and what is shown of its tree.
func reads(t *testing.T, rows ...string) {
	t.Helper()
	for i := 0; i < len(rows); i += 2 {
		x, d := Text([]byte(rows[i]))
		if d != (api.Diag{}) || tree.Check(x) != api.OK {
			t.Errorf("%q: %v", rows[i], d)
		} else if s := shownTree(x); s != rows[i+1] {
			t.Errorf("%q: %s", rows[i], s)
		}
	}
}

// readsTypes looks so at types alone.
func readsTypes(t *testing.T, rows ...string) {
	t.Helper()
	for i := 0; i < len(rows); i += 2 {
		x, d := Type([]byte(rows[i]))
		if d != (api.Diag{}) || len(x.Nodes)+len(x.Aliases) > 0 {
			t.Errorf("%q: %v", rows[i], d)
			continue
		}
		mayBe(t, x)
		if s := shownTree(x); s != rows[i+1] {
			t.Errorf("%q: %s", rows[i], s)
		}
	}
}

// refused looks whether texts are refused, with nothing beside the error and its place.
func refused(t *testing.T, parse func(b []byte) (api.Tree, api.Diag), e api.Errno, texts ...string) {
	t.Helper()
	for _, text := range texts {
		marked := strings.Index(text, "@")
		text = strings.Replace(text, "@", "", 1)
		x, d := parse([]byte(text))
		if d != (api.Diag{Error: e, Pos: marked}) || len(x.Nodes)+len(x.Types)+len(x.Aliases) > 0 {
			t.Errorf("%q: %v, %v, not %d at %d", text, x, d, e, marked)
		}
	}
}

// P5.1: the chapter's example, and one with most of the grammar.
func TestOrdinary(t *testing.T) {
	reads(t,
		`f x.a`, `App@2(Var@0 f, Select@3 a(Var@2 x))`,
		`type A = [#a int | ..]; let rec f = fun y -> f (y : A) in case f #a 1 of | #a z -> z + 2 * 3 | else -> 0 end`,
		`A@5 = TVariant@9 a open(TInt@13); LetRec@24 f(Fun@36 y(App@47(Var@45 f, Ascribe@47(Var@48 y):TAlias@52 A:)), `+
			`Case@58 a,z(App@65(Var@63 f, Tag@65 a(Int@68 1)), Op@85 +(Var@83 z, Op@89 *(Int@87 2, Int@91 3)), Int@103))`,
	)
}

// P5.1: atoms. What a string stands for is no sign and no word, and a float that is none has one's bits.
func TestAtoms(t *testing.T) {
	reads(t,
		`x`, `Var@0 x`,
		`_1`, `Var@0 _1`,
		`0`, `Int@0`,
		`12`, `Int@0 12`,
		`9223372036854775807`, `Int@0 9223372036854775807`,
		`true`, `Bool@0 1`,
		`false`, `Bool@0`,
		`""`, `Str@0""`,
		`"a\nb\\\""`, `Str@0"a\nb\\\""`,
		`"("`, `Str@0"("`,
		`"fun"`, `Str@0"fun"`,
		`"€"`, `Str@0"€"`,
		`f'3ff0000000000000`, `Float@0 3ff0000000000000`,
		`f'8000000000000000`, `Float@0 8000000000000000`,
		`f'0000000000000000`, `Float@0`,
		`f'fff8000000000002`, `Float@0 7ff8000000000001`,
		"// no term\n\t x // and none\n", `Var@13 x`,
	)
}

// P5.1: the terms that begin with a word, with all that may stand in them, or not.
func TestWordTerms(t *testing.T) {
	reads(t,
		`fun x -> x`, `Fun@0 x(Var@9 x)`,
		` fun x -> fun y -> x y`, `Fun@1 x(Fun@10 y(App@21(Var@19 x, Var@21 y)))`,
		`let x = 1 in x`, `Let@0 x(Int@8 1, Var@13 x)`,
		`let rec x = 1 in x`, `LetRec@0 x(Int@12 1, Var@17 x)`,
		`let x = let y = 1 in y in let x = 2 in x`, `Let@0 x(Let@8 y(Int@16 1, Var@21 y), Let@26 x(Int@34 2, Var@39 x))`,
		`if a then b else c`, `If@0(Var@3 a, Var@10 b, Var@17 c)`,
		`if a then if b then c else d else e == f`,
		`If@0(Var@3 a, If@10(Var@13 b, Var@20 c, Var@27 d), Op@36 ==(Var@34 e, Var@39 f))`,
		`case x of end`, `Case@0(Var@5 x)`,
		`case x of | else -> 1 end`, `Case@0(Var@5 x, Int@20 1)`,
		`case x of | #a y -> 1 end`, `Case@0 a,y(Var@5 x, Int@20 1)`,
		`case x of | #b y -> 1 | #if y -> 2 | #a b -> b | else -> 3 end`,
		`Case@0 b,y,if,y,a,b(Var@5 x, Int@20 1, Int@33 2, Var@45 b, Int@57 3)`,
		`case case x of end of | #a y -> case y of | #a y -> 1 end end`,
		`Case@0 a,y(Case@5(Var@10 x), Case@32 a,y(Var@37 y, Int@52 1))`,
		`case #a x of | #a a -> a end`, `Case@0 a,a(Tag@5 a(Var@8 x), Var@23 a)`,
	)
}

// P5.1: records, with none, one and many; a name may be there again in another one.
func TestRecords(t *testing.T) {
	reads(t,
		`{}`, `Record@0`,
		`{a = 1}`, `Record@0 a(Int@5 1)`,
		`{b = 1, a = {b = 2}, c = fun x -> x}`, `Record@0 b,a,c(Int@5 1, Record@12 b(Int@17 2), Fun@25 x(Var@34 x))`,
		`{a = {a = {}}}.a`, `Select@14 a(Record@0 a(Record@5 a(Record@10)))`,
		`{a = 1} {a = 2}`, `App@8(Record@0 a(Int@5 1), Record@8 a(Int@13 2))`,
	)
}

// P5.1: rows of signs stand to the left; those of the rules below stand within those above.
func TestSigns(t *testing.T) {
	reads(t,
		`a == b`, `Op@2 ==(Var@0 a, Var@5 b)`,
		`a < b`, `Op@2 <(Var@0 a, Var@4 b)`,
		`a <. b`, `Op@2 <.(Var@0 a, Var@5 b)`,
		`(a == b) == c`, `Op@9 ==(Op@3 ==(Var@1 a, Var@6 b), Var@12 c)`,
		`a == (b < c)`, `Op@2 ==(Var@0 a, Op@8 <(Var@6 b, Var@10 c))`,
		`a ^ b ^ c`, `Op@6 ^(Op@2 ^(Var@0 a, Var@4 b), Var@8 c)`,
		`a + b - c +. d -. e`, `Op@15 -.(Op@10 +.(Op@6 -(Op@2 +(Var@0 a, Var@4 b), Var@8 c), Var@13 d), Var@18 e)`,
		`a * b / c *. d /. e`, `Op@15 /.(Op@10 *.(Op@6 /(Op@2 *(Var@0 a, Var@4 b), Var@8 c), Var@13 d), Var@18 e)`,
		`a == b ^ c + d * e f`,
		`Op@2 ==(Var@0 a, Op@7 ^(Var@5 b, Op@11 +(Var@9 c, Op@15 *(Var@13 d, App@19(Var@17 e, Var@19 f)))))`,
		`a b * c + d ^ e < f`,
		`Op@16 <(Op@12 ^(Op@8 +(Op@4 *(App@2(Var@0 a, Var@2 b), Var@6 c), Var@10 d), Var@14 e), Var@18 f)`,
		`a + b * c - d`, `Op@10 -(Op@2 +(Var@0 a, Op@6 *(Var@4 b, Var@8 c)), Var@12 d)`,
		`a * b + c * d`, `Op@6 +(Op@2 *(Var@0 a, Var@4 b), Op@10 *(Var@8 c, Var@12 d))`,
		`a ^ b + c ^ d`, `Op@10 ^(Op@2 ^(Var@0 a, Op@6 +(Var@4 b, Var@8 c)), Var@12 d)`,
		`a - (b - c)`, `Op@2 -(Var@0 a, Op@7 -(Var@5 b, Var@9 c))`,
		`a-1`, `Op@1 -(Var@0 a, Int@2 1)`,
		`fun x -> x == x`, `Fun@0 x(Op@11 ==(Var@9 x, Var@14 x))`,
	)
}

// P5.1: applications, tags and points.
func TestApplications(t *testing.T) {
	reads(t,
		`f a b c`, `App@6(App@4(App@2(Var@0 f, Var@2 a), Var@4 b), Var@6 c)`,
		`f (a b) c`, `App@8(App@2(Var@0 f, App@5(Var@3 a, Var@5 b)), Var@8 c)`,
		`f {} "" true (x) f'0000000000000000 false 7`,
		`App@42(App@36(App@17(App@13(App@8(App@5(App@2(Var@0 f, Record@2), Str@5""), Bool@8 1), Var@14 x), Float@17), Bool@36), Int@42 7)`,
		`#a x`, `Tag@0 a(Var@3 x)`,
		`#let {}`, `Tag@0 let(Record@5)`,
		`#a x y`, `App@5(Tag@0 a(Var@3 x), Var@5 y)`,
		`#a (x y)`, `Tag@0 a(App@6(Var@4 x, Var@6 y))`,
		`f #a x`, `App@2(Var@0 f, Tag@2 a(Var@5 x))`,
		`f #a x y`, `App@7(App@2(Var@0 f, Tag@2 a(Var@5 x)), Var@7 y)`,
		`f #a x #a y`, `App@7(App@2(Var@0 f, Tag@2 a(Var@5 x)), Tag@7 a(Var@10 y))`,
		`#a (#b x)`, `Tag@0 a(Tag@4 b(Var@7 x))`,
		`#a x.b`, `Tag@0 a(Select@4 b(Var@3 x))`,
		`(#a x).b`, `Select@6 b(Tag@1 a(Var@4 x))`,
		`#a x * y`, `Op@5 *(Tag@0 a(Var@3 x), Var@7 y)`,
		`x.a`, `Select@1 a(Var@0 x)`,
		`x . a.b .c`, `Select@8 c(Select@5 b(Select@2 a(Var@0 x)))`,
		`f x.a.b y`, `App@8(App@2(Var@0 f, Select@5 b(Select@3 a(Var@2 x))), Var@8 y)`,
		`(f x).a`, `Select@5 a(App@3(Var@1 f, Var@3 x))`,
		`{a = 1}.a`, `Select@7 a(Record@0 a(Int@5 1))`,
		`1.a "".b`, `App@4(Select@1 a(Int@0 1), Select@6 b(Str@4""))`,
	)
}

// P5.1: round brackets are no terms; where one is ascribed, or cast, they are.
func TestBrackets(t *testing.T) {
	reads(t,
		`(x)`, `Var@1 x`,
		`((x))`, `Var@2 x`,
		`( fun x -> x )`, `Fun@2 x(Var@11 x)`,
		`(if a then b else c) d`, `App@21(If@1(Var@4 a, Var@11 b, Var@18 c), Var@21 d)`,
		`f ( (x) )`, `App@2(Var@0 f, Var@5 x)`,
		`((f) (x)) + (1)`, `Op@10 +(App@5(Var@2 f, Var@6 x), Int@13 1)`,
		`((f x) y) z`, `App@10(App@7(App@4(Var@2 f, Var@4 x), Var@7 y), Var@10 z)`,
		`f ((g x).a)`, `App@2(Var@0 f, Select@8 a(App@6(Var@4 g, Var@6 x)))`,
		`f ((x)).a y`, `App@10(App@2(Var@0 f, Select@7 a(Var@4 x)), Var@10 y)`,
		`(x : int)`, `Ascribe@0(Var@1 x):TInt@5:`,
		`(x : int => str)`, `Cast@0(Var@1 x):TInt@5, TStr@12:`,
		`(f x : int)`, `Ascribe@0(App@3(Var@1 f, Var@3 x)):TInt@7:`,
		`(fun x -> x : int)`, `Ascribe@0(Fun@1 x(Var@10 x)):TInt@14:`,
		`((x : int) : dyn => any)`, `Cast@0(Ascribe@1(Var@2 x):TInt@6:):TDyn@13, TAny@20:`,
		`((x : int))`, `Ascribe@1(Var@2 x):TInt@6:`,
		`f (x : int)`, `App@2(Var@0 f, Ascribe@2(Var@3 x):TInt@7:)`,
		`(x : int).a`, `Select@9 a(Ascribe@0(Var@1 x):TInt@5:)`,
		`(x : A -> B => C -> D)`, `Cast@0(Var@1 x):TFun@7(TAlias@5 A, TAlias@10 B), TFun@17(TAlias@15 C, TAlias@20 D):`,
	)
}

// P5.1: type rows at the text's beginning. (That a name is there twice is asked by another layer.)
func TestTypeRows(t *testing.T) {
	reads(t,
		`type A = int; x`, `A@5 = TInt@9; Var@14 x`,
		` type B = A -> A; type A1b = {}; type B = [..]; (x : A)`,
		`B@6 = TFun@12(TAlias@10 A, TAlias@15 A); A1b@23 = TRecord@29; B@38 = TVariant@42 open; Ascribe@48(Var@49 x):TAlias@53 A:`,
		`type A = {type_: A}; {a = 1}`, `A@5 = TRecord@9 type_(TAlias@17 A); Record@21 a(Int@26 1)`,
	)
}

// P5.1: types alone, each kind, with what may stand in them, or not.
func TestTypes(t *testing.T) {
	readsTypes(t,
		`int`, `TInt@0`,
		`bool`, `TBool@0`,
		`str`, `TStr@0`,
		`float`, `TFloat@0`,
		`dyn`, `TDyn@0`,
		`any`, `TAny@0`,
		`none`, `TNone@0`,
		`Ab1`, `TAlias@0 Ab1`,
		` int // and no more`, `TInt@1`,
		`int -> int -> bool`, `TFun@4(TInt@0, TFun@11(TInt@7, TBool@14))`,
		`(int -> int) -> bool`, `TFun@13(TFun@5(TInt@1, TInt@8), TBool@16)`,
		`(int)`, `TInt@1`,
		`((int -> int))`, `TFun@6(TInt@2, TInt@9)`,
		`{}`, `TRecord@0`,
		`{a: int}`, `TRecord@0 a(TInt@4)`,
		`{b: int -> int, a: {b: str}}`, `TRecord@0 b,a(TFun@8(TInt@4, TInt@11), TRecord@19 b(TStr@23))`,
		`[]`, `TVariant@0`,
		`[..]`, `TVariant@0 open`,
		`[#a int]`, `TVariant@0 a(TInt@4)`,
		`[#b int | #a str]`, `TVariant@0 b,a(TInt@4, TStr@13)`,
		`[#a int | ..]`, `TVariant@0 a open(TInt@4)`,
		`[#a int | #if (int -> int) | #c [#a [] | ..] | ..]`,
		`TVariant@0 a,if,c open(TInt@4, TFun@19(TInt@15, TInt@22), TVariant@32 a open(TVariant@36))`,
		`[#a [#a [..] | #b []] | #b [#a A]]`,
		`TVariant@0 a,b(TVariant@4 a,b(TVariant@8 open, TVariant@18), TVariant@27 a(TAlias@31 A))`,
		`[#a {} | #b A] -> int`, `TFun@15(TVariant@0 a,b(TRecord@4, TAlias@12 A), TInt@18)`,
		`({a: int}) -> ([])`, `TFun@11(TRecord@1 a(TInt@5), TVariant@15)`,
	)
}

// P5.1: a token that can't stand there, and texts that end too early; @ marks the place that is told.
func TestWrongTerms(t *testing.T) {
	refused(t, Text, api.ErrParse,
		`@`, ` @`, "// x@", `@)`, `x @)`, `@in`, `x @fun y -> y`, `x @in`, `x @;`, `x @,`,
		`fun @`, `fun @-> x`, `fun @X -> x`, `fun @let -> x`, `fun @#x -> x`, `fun @"x" -> x`, `fun @1 -> 1`, `fun x @`, `fun x @=> x`, `fun x @y -> x`, `fun x -> @`, `fun x -> @)`,
		`let @`, `let @= 1 in x`, `let rec @`, `let rec @rec x = 1 in x`, `let x @`, `let x @== 1 in x`, `let x = @`, `let x = @in x`, `let x = 1 @`, `let x = 1 @; x`, `let x = 1 in @`, `let x = 1 in x @in x`,
		`if @`, `if @then a else b`, `if a @`, `if a @else b`, `if a then @`, `if a then @else b`, `if a then b @`, `if a then b @end`, `if a then b else @`, `if a then b else c @else d`,
		`case @`, `case @of end`, `case x @`, `case x @end`, `case x of @`, `case x of @#a y -> 1 end`, `case x of | @`, `case x of | @end`, `case x of | @a y -> 1 end`, `case x of | @| else -> 1 end`,
		`case x of | #a @`, `case x of | #a @-> 1 end`, `case x of | #a @#b -> 1 end`, `case x of | #a y @`, `case x of | #a y @= 1 end`, `case x of | #a y -> @`, `case x of | #a y -> @| else -> 1 end`, `case x of | #a y -> 1 @`, `case x of | #a y -> 1 @of`,
		`case x of | #a y -> 1 | @end`, `case x of | else @`, `case x of | else @y -> 1 end`, `case x of | else @#a y -> 1 end`, `case x of | else -> @`, `case x of | else -> 1 @`, `case x of | else -> 1 @| #a y -> 1 end`, `case x of | else -> 1 @| else -> 1 end`, `case x of end @end`,
	)
	refused(t, Text, api.ErrParse,
		`a == @`, `a < @< b`, `a == b @== c`, `a < b @< c`, `a <. b @== c`, `a < b ^ c @<. d`, `(a < b) < c @< d`, `a ^ @`, `a ^ @^ b`, `a + @`, `a + @-1`, `@-1`, `@+ a`, `@* a`, `a * @`, `a * @* b`, `a +. @/. b`, `a ^ @fun x -> x`, `a + @if b then c else d`, `a @=`, `a @-> b`, `a @=> b`, `a @: int`, `a @| b`,
		`#a @`, `#a @#b x`, `#a @fun x -> x`, `#a @in`, `#a @* b`, `f #a @`, `f #a @#a x`, `f @let x = 1 in x`, `f @Ab`, `@Ab`, `@int`, `@.a`, `x.@`, `x.@1`, `x.@X`, `x.@if`, `x.@#a`, `x.@(a)`, `x. @.a`, `x@..a`, `x.a.@`, `x.@"a"`,
		`(@`, `(@)`, `(x @`, `(x @]`, `(x@}`, `(x @,y)`, `(x : @`, `(x : @)`, `(x : @y)`, `(x : int @`, `(x : int @: int)`, `(x : int @-`, `(x : int => @`, `(x : int => @)`, `(x : int => str @`, `(x : int => str @=> str)`, `(x @=> int)`, `((x) @`, `x @: int`, `(x)@)`,
		`{@`, `{@1}`, `{@,}`, `{a @`, `{a @}`, `{a @: int}`, `{a @== 1}`, `{@"a" = 1}`, `{@#a = 1}`, `{@A = 1}`, `{@if = 1}`, `{a = @`, `{a = @}`, `{a = 1 @`, `{a = 1 @)`, `{a = 1 @; b = 2}`, `{a = 1, @`, `{a = 1, @}`, `{a = 1, @, b = 2}`, `{a = 1, b @`, `{a = 1, b = 2 @]`, `{a = 1 b @= 2}`, `{}@}`,
		`@[`, `@[]`, `@]`, `@|`, `@end`, `@..`, `@then`,
	)
}

// P5.1: so in type rows, and in types.
func TestWrongTypes(t *testing.T) {
	refused(t, Text, api.ErrParse,
		`type @`, `type @a = int; x`, `type @int = int; x`, `type @#a = int; x`, `type @"A" = int; x`, `type A @`, `type A @int; x`, `type A @: int; x`, `type A = @`, `type A = @; x`, `type A = @x; x`, `type A = int @`, `type A = int @x`, `type A = int @, x`,
		`type A = int; @`, `type A = int; @; x`, `type A = int; type @`, `x @type A = int; x`, `(@type A = int; x)`, `fun x -> @type A = int; x`, `type A = @type B = int; x`,
	)
	refused(t, Type, api.ErrParse,
		`@`, ` @`, `@x`, `@1`, `@"int"`, `@#int`, `@fun`, `@type A = int; A`, `@true`, `@->`, `@=>`, `@|`, `@..`, `@)`, `@}`, `@]`,
		`int @int`, `int @A`, `int @)`, `int @;`, `int @=> int`, `int @-`, `int -> @`, `int -> @-> int`, `int -> int @]`, `@-> int`, `int @x`, `(int)@.a`,
		`(@`, `(@)`, `(int @`, `(int @]`, `(int @: int)`, `(int -> @)`, `(int)@)`,
		`{@`, `{@int}`, `{@,}`, `{@..}`, `{a @`, `{a @= int}`, `{a @}`, `{@#a: int}`, `{@"a": int}`, `{a: @`, `{a: @}`, `{a: @x}`, `{a: int @`, `{a: int @| b: int}`, `{a: int @b: int}`, `{a: int, @`, `{a: int, @}`, `{a: int, @..}`, `{a: int, @#b: int}`, `{a: int, b: int@]`, `{}@}`,
		`[@`, `[@int]`, `[@a int]`, `[@|]`, `[@| #a int]`, `[@"a" int]`, `[#a @`, `[#a @]`, `[#a @| #b int]`, `[#a @#b int]`, `[#a @: int]`, `[#a int @`, `[#a int @)`, `[#a int @-> int]`, `[#a int @, #b int]`, `[#a int @#b int]`, `[#a int @..]`,
		`[#a int | @`, `[#a int | @]`, `[#a int | @| #b int]`, `[#a int | @int]`, `[#a int | .. @`, `[#a int | .. @..]`, `[#a int | .. @| #b int]`, `[#a int | .. @)`, `[.. @`, `[.. @| #a int]`, `[.. @#a int]`, `[..@..]`, `[]@]`, `[#a [@`, `[#a [#b int @`, `[#a [] @)`, `[#a [..] | @]`,
	)
}
