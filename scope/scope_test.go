package scope_test

import (
	"slices"
	"strings"
	"testing"

	"azimuth/api"
	"azimuth/parse"
	"azimuth/scope"
)

// read: the tree of a text.
func read(t *testing.T, text string) api.Tree {
	t.Helper()
	x, d := parse.Text([]byte(text))
	if d.Error != api.OK {
		t.Fatalf("%q isn't parsed: %v", text, d)
	}
	return x
}

// at takes a mark out of a text (with other marks in it), and tells the place at which it stood; -1: there is none.
func at(text, mark, other string) (string, int) {
	place := strings.Index(strings.ReplaceAll(text, other, ""), mark)
	return strings.ReplaceAll(text, mark, ""), place
}

// owners: the terms that bind a name, in a tree in which each name is bound once.
func owners(x api.Tree, name string) []int {
	var l []int
	for i, n := range x.Nodes {
		switch n.Kind {
		case api.Fun, api.Let, api.LetRec:
			if n.Name == name {
				l = append(l, i)
			}
		case api.Case:
			for k := 1; k < len(n.Names); k += 2 {
				if n.Names[k] == name {
					l = append(l, i)
				}
			}
		}
	}
	return l
}

// binds looks whether each Var of a text is bound by the term that the second text tells, in which each term binds a name of its own.
func binds(t *testing.T, text, own string) {
	t.Helper()
	x, y := read(t, text), read(t, own)
	if len(x.Nodes) != len(y.Nodes) {
		t.Fatalf("the test's own text is wrong: %q", own)
	}
	for i, n := range y.Nodes {
		if n.Kind != x.Nodes[i].Kind {
			t.Fatalf("the test's own text is wrong: %q", own)
		}
		want, there := 0, false
		if l := owners(y, n.Name); n.Kind == api.Var && len(l) == 1 {
			want, there = l[0], true
		} else if n.Kind == api.Var && len(l) > 1 {
			t.Fatalf("the test's own text is wrong: %q", own)
		}
		if k, ok := scope.Binder(x, i); k != want || ok != there {
			t.Errorf("%q: Binder of %d: %d, %v; it is %d, %v", text, i, k, ok, want, there)
		}
	}
}

// P7.1: which term binds a Var: by each kind of term, and where it binds nothing.
func TestBinder(t *testing.T) {
	for text, own := range map[string]string{
		// a Fun
		"fun x -> x":                 "fun x1 -> x1",
		"fun x -> y":                 "fun x1 -> y",
		"fun x -> x x":               "fun x1 -> x1 x1",
		"(fun x -> x) x":             "(fun x1 -> x1) x",
		"x (fun x -> x)":             "x (fun x1 -> x1)",
		"(fun x -> x) (fun x -> x)":  "(fun x1 -> x1) (fun x2 -> x2)",
		"fun x -> fun y -> x y":      "fun x1 -> fun y1 -> x1 y1",
		"fun x -> fun x -> x":        "fun x1 -> fun x2 -> x2",
		"fun x -> (fun x -> x) x":    "fun x1 -> (fun x2 -> x2) x1",
		"fun _ -> _ _0":              "fun _1 -> _1 _0",
		"fun x -> fun y -> fun x->y": "fun x1 -> fun y1 -> fun x2 -> y1",
		// a Let
		"let x = x in x":                     "let x1 = x in x1",
		"let x = y in y":                     "let x1 = y in y",
		"(let x = 1 in x) x":                 "(let x1 = 1 in x1) x",
		"x (let x = 1 in x)":                 "x (let x1 = 1 in x1)",
		"let x = x in let x = x in x":        "let x1 = x in let x2 = x1 in x2",
		"let x = let x = x in x in x":        "let x1 = let x2 = x in x2 in x1",
		"let x = fun x -> x in x":            "let x1 = fun x2 -> x2 in x1",
		"let x = fun y -> x in y":            "let x1 = fun y1 -> x in y",
		"let x = 1 in let y = x in x y":      "let x1 = 1 in let y1 = x1 in x1 y1",
		"fun x -> let x = x in x":            "fun x1 -> let x2 = x1 in x2",
		"fun x -> let y = x in x y":          "fun x1 -> let y1 = x1 in x1 y1",
		"let x = 1 in (let x = x in x) x":    "let x1 = 1 in (let x2 = x1 in x2) x1",
		"let f = fun x -> f x in f x":        "let f1 = fun x1 -> f x1 in f1 x",
		"let x = 1 in fun x -> let y=x in x": "let x1 = 1 in fun x2 -> let y1 = x2 in x2",
		// a LetRec
		"let rec f = f in f":                        "let rec f1 = f1 in f1",
		"let rec f = fun x -> f x in f x":           "let rec f1 = fun x1 -> f1 x1 in f1 x",
		"let rec f = fun f -> f in f":               "let rec f1 = fun f2 -> f2 in f1",
		"(let rec f = fun x -> f in f) f":           "(let rec f1 = fun x1 -> f1 in f1) f",
		"f (let rec f = fun x -> f in f)":           "f (let rec f1 = fun x1 -> f1 in f1)",
		"let f = 1 in let rec f = f in f":           "let f1 = 1 in let rec f2 = f2 in f2",
		"let rec f = let f = f in f in f":           "let rec f1 = let f2 = f1 in f2 in f1",
		"let rec f = let rec f = f in f in f":       "let rec f1 = let rec f2 = f2 in f2 in f1",
		"let rec f = fun x -> g in let g = f in g":  "let rec f1 = fun x1 -> g in let g1 = f1 in g1",
		"let rec f = fun x -> x in fun x -> f x":    "let rec f1 = fun x1 -> x1 in fun x2 -> f1 x2",
		"let rec f = fun x -> let f = x in f in f ": "let rec f1 = fun x1 -> let f2 = x1 in f2 in f1",
		// a Case
		"case x of | #a x -> x end":                                     "case x of | #a x1 -> x1 end",
		"case x of | #a x -> y end":                                     "case x of | #a x1 -> y end",
		"case x of | #x y -> x y end":                                   "case x of | #x y1 -> x y1 end",
		"case x of | #a y -> x y | #b x -> x y end":                     "case x of | #a y1 -> x y1 | #b x1 -> x1 y end",
		"case x of | #a x -> x | else -> x end":                         "case x of | #a x1 -> x1 | else -> x end",
		"case x y of | #a x -> x y | #b y -> x y | else -> x y end":     "case x y of | #a x1 -> x1 y | #b y1 -> x y1 | else -> x y end",
		"case 1 of | #a x -> x y z | #b y -> x y z | #c z -> x y z end": "case 1 of | #a x1 -> x1 y z | #b y1 -> x y1 z | #c z1 -> x y z1 end",
		"case x of end":                 "case x of end",
		"case x of | else -> x end":     "case x of | else -> x end",
		"(case 1 of | #a x -> x end) x": "(case 1 of | #a x1 -> x1 end) x",
		"fun x -> case x of | #a y -> x | #b x -> x | else -> x end":           "fun x1 -> case x1 of | #a y1 -> x1 | #b x2 -> x2 | else -> x1 end",
		"case 1 of | #a x -> case x of | #b x -> x | else -> x end end":        "case 1 of | #a x1 -> case x1 of | #b x2 -> x2 | else -> x1 end end",
		"case 1 of | #a x -> 1 | else -> case x of | #b x -> x end end":        "case 1 of | #a x1 -> 1 | else -> case x of | #b x2 -> x2 end end",
		"case case x of | #a x -> x end of | #a x -> x end":                    "case case x of | #a x1 -> x1 end of | #a x2 -> x2 end",
		"let x = case x of | #a x -> x end in case x of | #a y -> x y end":     "let x1 = case x of | #a x2 -> x2 end in case x1 of | #a y1 -> x1 y1 end",
		"let rec x = case x of | #a y -> x end in case x of | #a x -> x end":   "let rec x1 = case x1 of | #a y1 -> x1 end in case x1 of | #a x2 -> x2 end",
		"case fun x -> x of | #a y -> fun x -> x y | else -> fun y -> x y end": "case fun x1 -> x1 of | #a y1 -> fun x2 -> x2 y1 | else -> fun y2 -> x y2 end",
		// terms that bind nothing stand between, whatever names they have
		"x":                               "x",
		"fun x -> #x x":                   "fun x1 -> #x x1",
		"#x x":                            "#x x",
		"fun x -> {x = x, y = y}":         "fun x1 -> {x = x1, y = y}",
		"{x = x}":                         "{x = x}",
		"fun x -> x.x":                    "fun x1 -> x1.x",
		"x.x":                             "x.x",
		"fun x -> \"x\" ^ x":              "fun x1 -> \"x\" ^ x1",
		"fun x -> if x then x else x + y": "fun x1 -> if x1 then x1 else x1 + y",
		"fun x -> ((x : int) : int => dyn) (x : A)":                              "fun x1 -> ((x1 : int) : int => dyn) (x1 : A)",
		"fun x -> {a = #b (x.c < (if x then (x : int) else f x))}":               "fun x1 -> {a = #b (x1.c < (if x1 then (x1 : int) else f x1))}",
		"let x = 1 in fun y -> let z = y in (case z of | #a x -> x y z end) x y": "let x1 = 1 in fun y1 -> let z1 = y1 in (case z1 of | #a x2 -> x2 y1 z1 end) x1 y1",
	} {
		binds(t, text, own)
	}
}

// P7.1: a number that is no Var's.
func TestBinderOfNone(t *testing.T) {
	for _, text := range []string{"x", "fun x -> x", "let x = 1 in let rec f = fun x -> true in case x of | #x x -> f | else -> {x = (\"x\" : T)}.x end"} {
		x := read(t, text)
		for _, i := range outside(len(x.Nodes)) {
			if k, ok := scope.Binder(x, i); k != 0 || ok {
				t.Errorf("%q: Binder of %d: %d, %v", text, i, k, ok)
			}
		}
		for i, n := range x.Nodes {
			if k, ok := scope.Binder(x, i); n.Kind != api.Var && (k != 0 || ok) {
				t.Errorf("%q: Binder of %d: %d, %v", text, i, k, ok)
			}
		}
	}
}

// P7.1: which names are free.
func TestFree(t *testing.T) {
	for text, want := range map[string]string{
		"fun x -> x y": "y",
		// none
		"1":                             "",
		"\"x\"":                         "",
		"{}":                            "",
		"fun x -> x":                    "",
		"#x {x = 1}.x":                  "",
		"let x = 1 in x":                "",
		"let rec f = f in f":            "",
		"case 1 of | #a x -> x end":     "",
		"case {} of end":                "",
		"fun f -> fun x -> f (f x)":     "",
		"type A = int; (true : A => A)": "",
		// one of each term's kids
		"x":                                     "x",
		"fun y -> x":                            "x",
		"x 1":                                   "x",
		"1 x":                                   "x",
		"let x = x in 1":                        "x",
		"let y = 1 in x":                        "x",
		"let rec f = x in f":                    "x",
		"let rec f = f in x":                    "x",
		"if x then 1 else 2":                    "x",
		"if 0 then x else 2":                    "x",
		"if 0 then 1 else x":                    "x",
		"case x of | #a x -> x | #b x -> x end": "x",
		"case 1 of | #a y -> x | #b x -> x end": "x",
		"case 1 of | #a x -> x | #b y -> x end": "x",
		"case 1 of | #a x -> x | else -> x end": "x",
		"case 1 of | #x y -> y | else -> x end": "x",
		"#a x":                                  "x",
		"{a = x}":                               "x",
		"{a = 1, b = x}":                        "x",
		"x.a":                                   "x",
		"x + 1":                                 "x",
		"1 + x":                                 "x",
		"(x : int)":                             "x",
		"(x : int => int)":                      "x",
		"case 1 of | #a x -> x | #b z -> x z end": "x",
		// free in one place, bound in another
		"(fun x -> x) x":                                         "x",
		"x (fun x -> x)":                                         "x",
		"let x = x in x":                                         "x",
		"(let x = 1 in x) x":                                     "x",
		"(let rec x = fun y -> x in x) x":                        "x",
		"(case 1 of | #a x -> x end) x":                          "x",
		"let f = fun x -> f x in f x":                            "f x",
		"let x = let y = x in y in y":                            "x y",
		"let rec f = fun x -> f x in f x":                        "x",
		"fun x -> (fun x -> x) x y":                              "y",
		"fun x -> (let x = x in x) x":                            "",
		"(fun x -> (fun x -> x) x) x":                            "x",
		"(fun x -> fun x -> x) x":                                "x",
		"(fun x -> fun x -> 1) x":                                "x",
		"let x = x in case y of | #a z -> z x | else -> z end":   "x y z",
		"fun x -> case x of | #a y -> x y | else -> x y end":     "y",
		"case x of | #a x -> case x of | #b x -> x end end":      "x",
		"{a = fun x -> x, b = x, c = fun y -> x y, d = y}":       "x y",
		"{a = let x = 1 in x, b = let x = 1 in fun x -> x, c=z}": "z",
		// rising, each once
		"c b a":                               "a b c",
		"a b c":                               "a b c",
		"b c a b c a":                         "a b c",
		"x x x":                               "x",
		"fun b -> c b a b c":                  "a c",
		"ba a b ab aa":                        "a aa ab b ba",
		"x10 x9 x2 x1 x":                      "x x1 x10 x2 x9",
		"xa x_ x0 x9 _ z _0 __ _a":            "_ _0 __ _a x0 x9 x_ xa z",
		"{z = y, y = z, a = fun z -> z w}":    "w y z",
		"f0 + g.f * #h (f - e) / (d : A) < e": "d e f f0 g",
		// free also where other things are wrong
		"type A = A; type A = B; (let rec f = g in x : C)": "g x",
	} {
		if l := scope.Free(read(t, text)); !slices.Equal(l, strings.Fields(want)) {
			t.Errorf("%q: Free: %q; it is %q", text, l, want)
		}
	}
}

// P7.1: what is wrong, and where (at the @), and its Name.
func TestCheck(t *testing.T) {
	for _, x := range []struct {
		text string
		e    api.Errno
		name string
	}{
		// nothing
		{"x", api.OK, ""},
		{"fun x -> x y", api.OK, ""},
		{"type A = int; type B = A; type C = B -> A; (1 : C => A)", api.OK, ""},
		{"type A = B; type B = C; type C = int; (x : A)", api.OK, ""},
		{"type C = int; type B = C; type A = B; (x : A)", api.OK, ""},
		{"let rec f = fun x -> f x in f", api.OK, ""},
		{"let rec f = (fun f -> 1) in f", api.OK, ""},
		{"let f = 1 in f", api.OK, ""},
		{"let rec f = fun x -> let rec g = fun y -> f in g in let rec f = fun z -> f in f", api.OK, ""},
		// an alias within something, within its own type
		{"type A = int -> A; (f : A)", api.OK, ""},
		{"type A = A -> int; (f : A)", api.OK, ""},
		{"type A = {a: A}; 1", api.OK, ""},
		{"type A = {b: int, a: A}; 1", api.OK, ""},
		{"type A = [#a A]; 1", api.OK, ""},
		{"type A = [#b int | #a A | ..]; 1", api.OK, ""},
		{"type A = {a: int -> [#b A]}; type B = A; (1 : B)", api.OK, ""},
		{"type A = B; type B = {b: A}; 1", api.OK, ""},
		{"type A = B -> B; type B = A; 1", api.OK, ""},
		// two aliases of one name
		{"type A = int; type @A = bool; 1", api.ErrTwice, "A"},
		{"type A = int; type @A = int; (1 : A)", api.ErrTwice, "A"},
		{"type A = int; type B = A; type C = B; type @A = C; 1", api.ErrTwice, "A"},
		{"type A = int; type @A = int; type A = int; 1", api.ErrTwice, "A"},
		{"type B = int; type A = int; type @A = int; type B = int; 1", api.ErrTwice, "A"},
		{"type A = int; type B = int; type @B = int; type A = int; 1", api.ErrTwice, "B"},
		{"type A = int; type @A = A; 1", api.ErrTwice, "A"},
		{"type A1 = int; type A10 = int; type A = int; type @A10 = bool; 1", api.ErrTwice, "A10"},
		// a name that no alias has
		{"(1 : @A)", api.ErrName, "A"},
		{"(1 : int => @Bc1)", api.ErrName, "Bc1"},
		{"(1 : @B => A)", api.ErrName, "B"},
		{"type A = @B; 1", api.ErrName, "B"},
		{"type A = int -> @B; 1", api.ErrName, "B"},
		{"type A = @B -> A; 1", api.ErrName, "B"},
		{"type A = {a: A, b: [#c @C]}; 1", api.ErrName, "C"},
		{"type A = int; (1 : {a: A, b: A -> @AA})", api.ErrName, "AA"},
		{"type A = int; (a : A) (b : [#a (int -> @B)])", api.ErrName, "B"},
		{"type A = B; type B = @C; (1 : A)", api.ErrName, "C"},
		{"fun x -> {a = (x : @A)}", api.ErrName, "A"},
		{"type Ab = int; (1 : @A)", api.ErrName, "A"},
		{"type A = int; (1 : @Ab)", api.ErrName, "Ab"},
		// an alias that loops
		{"type @A = A; 1", api.ErrLoop, "A"},
		{"type @A = (A); (1 : A)", api.ErrLoop, "A"},
		{"type @A = B; type B = A; 1", api.ErrLoop, "A"},
		{"type @B = A; type A = B; 1", api.ErrLoop, "B"},
		{"type @A = B; type B = C; type C = A; 1", api.ErrLoop, "A"},
		{"type @C = E; type D = C; type E = D; 1", api.ErrLoop, "C"},
		{"type @A = B; type B = C; type C = D; type D = E; type E = A; (1 : C)", api.ErrLoop, "A"},
		{"type I = int; type @A = B; type R = {a: A}; type B = A; 1", api.ErrLoop, "A"},
		// one that only leads into a round
		{"type A = B; type @B = B; 1", api.ErrLoop, "B"},
		{"type A = B; type @B = C; type C = B; 1", api.ErrLoop, "B"},
		{"type A = B; type B = C; type C = D; type @E = D; type D = E; 1", api.ErrLoop, "E"},
		{"type A = C; type @B = B; type C = B; 1", api.ErrLoop, "B"},
		{"type A = E; type B = A; type @C = D; type D = C; type E = C; 1", api.ErrLoop, "C"},
		{"type A = B -> B; type @B = B; 1", api.ErrLoop, "B"},
		{"type A = D; type B = D; type C = B; type @D = E; type E = D; type F = E; 1", api.ErrLoop, "D"},
		// two rounds
		{"type @A = A; type B = B; 1", api.ErrLoop, "A"},
		{"type @B = B; type A = A; 1", api.ErrLoop, "B"},
		{"type @D = C; type A = B; type C = D; type B = A; 1", api.ErrLoop, "D"},
		// a LetRec of what is no Fun, of each kind
		{"let rec f = @x in f", api.ErrArg, "f"},
		{"let rec f = @1 in f", api.ErrArg, "f"},
		{"let rec f = @true in f", api.ErrArg, "f"},
		{"let rec f = @\"fun\" in f", api.ErrArg, "f"},
		{"let rec f = @f'0000000000000000 in f", api.ErrArg, "f"},
		{"let rec f = (fun x -> x) @g in f", api.ErrArg, "f"},
		{"let rec f = @let x = 1 in fun x -> x in f", api.ErrArg, "f"},
		{"let rec f = @let rec x = fun y -> y in fun x -> x in f", api.ErrArg, "f"},
		{"let rec f = @if 1 then fun x -> x else fun x -> x in f", api.ErrArg, "f"},
		{"let rec f = @case 1 of | #a x -> fun x -> x end in f", api.ErrArg, "f"},
		{"let rec f = @#a (fun x -> x) in f", api.ErrArg, "f"},
		{"let rec f = @{a = fun x -> x} in f", api.ErrArg, "f"},
		{"let rec f = {a = fun x -> x}@.a in f", api.ErrArg, "f"},
		{"let rec f = x @+ (fun x -> x) in f", api.ErrArg, "f"},
		{"let rec f = (@(fun x -> x : int -> int)) in f", api.ErrArg, "f"},
		{"let rec f = @(fun x -> x : dyn => int -> int) in f", api.ErrArg, "f"},
		{"fun f -> (let rec g1 = @f in fun x -> x) (let rec f = fun x -> x in f)", api.ErrArg, "g1"},
		{"let rec f = fun x -> let rec g = @x in x in f", api.ErrArg, "g"},
		{"let rec f = fun x -> x in let rec _ = @f in f", api.ErrArg, "_"},
		{"let rec f = @let rec g = f in g in f", api.ErrArg, "f"},
		// several: that at the least place
		{"type A = int; type @A = B; let rec f = 1 in f", api.ErrTwice, "A"},
		{"type A = @B; type A = int; type C = C; 1", api.ErrName, "B"},
		{"type @C = C; type A = B; type A = int; let rec f = 1 in f", api.ErrLoop, "C"},
		{"type @A = B; type B = A; (1 : C)", api.ErrLoop, "A"},
		{"type A = @C; type B = B; (let rec f = 1 in f : D)", api.ErrName, "C"},
		{"(let rec f = @1 in f : A)", api.ErrArg, "f"},
		{"(1 : @A) (let rec f = 1 in f)", api.ErrName, "A"},
		{"(1 : @B) (1 : A)", api.ErrName, "B"},
		{"let rec g = @1 in let rec f = 1 in f", api.ErrArg, "g"},
		{"type A = int; type B = A; type @A = A; type C = D; type E = E; 1", api.ErrTwice, "A"},
		// the first alias of a name is the one that counts
		{"type A = int; type B = A; type @A = B; 1", api.ErrTwice, "A"},
		{"type A = int; type @A = A; type A = C; 1", api.ErrTwice, "A"},
		{"type @A = A; type A = int; 1", api.ErrLoop, "A"},
		{"type @A = B; type B = A; type A = int; 1", api.ErrLoop, "A"},
		{"type B = A; type A = int; type @A = B; 1", api.ErrTwice, "A"},
		{"type B = A; type @A = A; type A = B; 1", api.ErrLoop, "A"},
	} {
		text, place := at(x.text, "@", "$")
		want := api.Diag{Error: x.e, Pos: max(place, 0), Name: x.name}
		if (x.e == api.OK) != (place < 0) {
			t.Fatalf("the test's own text is wrong: %q", x.text)
		}
		if d := scope.Check(read(t, text)); d != want {
			t.Errorf("%q: Check: %d at %d, %q; it is %d at %d, %q", text, d.Error, d.Pos, d.Name, want.Error, want.Pos, want.Name)
		}
	}
}

// typeAt: the number of the type at a place.
func typeAt(t *testing.T, x api.Tree, place int) int {
	t.Helper()
	i := slices.IndexFunc(x.Types, func(n api.TypeNode) bool { return n.Pos == place })
	if i < 0 {
		t.Fatalf("there is no type at %d", place)
	}
	return i
}

// P7.1: for which type (at the $) one (at the @) stands.
func TestThrough(t *testing.T) {
	for _, x := range []struct {
		text string
		e    api.Errno
	}{
		// itself
		{"(1 : @$int)", api.OK},
		{"(1 : @$bool)", api.OK},
		{"(1 : @$str)", api.OK},
		{"(1 : @$float)", api.OK},
		{"(1 : @$dyn)", api.OK},
		{"(1 : @$any)", api.OK},
		{"(1 : @$none)", api.OK},
		{"(1 : int @$-> int)", api.OK},
		{"(1 : @$int -> int)", api.OK},
		{"(1 : int -> @$int)", api.OK},
		{"(1 : @${})", api.OK},
		{"(1 : @${a: A})", api.OK},
		{"(1 : @$[])", api.OK},
		{"(1 : @$[#a A])", api.OK},
		{"type A = A; (1 : A @$-> A)", api.OK},
		{"type A = @$int; (1 : A)", api.OK},
		{"type A = A @$-> B; 1", api.OK},
		// an alias, one that stands for one, and on
		{"type A = $int; (1 : @A)", api.OK},
		{"type A = $int; (1 : (@A))", api.OK},
		{"type A = $int; (1 : A => @A)", api.OK},
		{"type A = $int; (1 : {a: A, b: B -> [#c @A]})", api.OK},
		{"type A = int $-> A; (1 : @A)", api.OK},
		{"type A = int $-> @A; (1 : A)", api.OK},
		{"type A = ${a: @A}; 1", api.OK},
		{"type A = $[#a @A | ..]; 1", api.OK},
		{"type A = B; type B = $int; (1 : @A)", api.OK},
		{"type A = @B; type B = $int; (1 : A)", api.OK},
		{"type B = $int; type A = B; (1 : @A)", api.OK},
		{"type A = B; type B = C; type C = ${}; (1 : @A)", api.OK},
		{"type A = B; type B = C; type C = ${}; (1 : @B)", api.OK},
		{"type A = B; type B = C; type C = ${}; (1 : @C)", api.OK},
		{"type A = B; type B = @C; type C = ${}; (1 : A)", api.OK},
		{"type C = $str; type B = C; type D = B; type A = D; type E = A; (1 : @E)", api.OK},
		{"type A = $int; type B = bool; type C = str; (1 : @A)", api.OK},
		{"type A = int; type B = $bool; type C = str; (1 : @B)", api.OK},
		{"type A = int; type B = bool; type C = $str; (1 : @C)", api.OK},
		{"type A = {a: B}; type B = $[#b A]; (1 : {a: @B})", api.OK},
		// the first of two aliases with a name
		{"type A = $int; type A = bool; (1 : @A)", api.OK},
		{"type A = $int; type A = @A; 1", api.OK},
		{"type A = $int; type A = A; type A = str; (1 : @A)", api.OK},
		{"type A = B; type B = $int; type B = bool; type A = str; (1 : @A)", api.OK},
		{"type A = B; type A = int; type B = $bool; (1 : @A)", api.OK},
		{"type A = A; type A = int; (1 : @A)", api.ErrLoop},
		{"type A = B; type A = int; (1 : @A)", api.ErrName},
		{"type A = B; type B = @A; type A = int; 1", api.ErrLoop},
		// a name that no alias has
		{"(1 : @A)", api.ErrName},
		{"(1 : {a: @A})", api.ErrName},
		{"type B = int; (1 : @A)", api.ErrName},
		{"type A = B; (1 : @A)", api.ErrName},
		{"type A = @B; 1", api.ErrName},
		{"type A = B; type B = C; type C = D; (1 : @A)", api.ErrName},
		{"type A = B; type B = C; type C = D; type E = E; (1 : @B)", api.ErrName},
		{"type A = int -> @B; 1", api.ErrName},
		// a round, and what leads into one
		{"type A = A; (1 : @A)", api.ErrLoop},
		{"type A = @A; 1", api.ErrLoop},
		{"type A = B; type B = A; (1 : @A)", api.ErrLoop},
		{"type A = B; type B = A; (1 : @B)", api.ErrLoop},
		{"type A = B; type B = @A; 1", api.ErrLoop},
		{"type A = B; type B = C; type C = A; (1 : @C)", api.ErrLoop},
		{"type A = B; type B = B; (1 : @A)", api.ErrLoop},
		{"type A = B; type B = C; type C = D; type D = E; type E = D; (1 : @A)", api.ErrLoop},
		{"type A = int -> @B; type B = B; 1", api.ErrLoop},
		// other things may be wrong
		{"type A = $int; type B = B; type C = D; type A = B; (let rec f = 1 in f : @A)", api.OK},
		{"type A = int $-> B; type B = B; (1 : @A)", api.OK},
		{"type A = ${a: B}; (1 : @A)", api.OK},
	} {
		text, from := at(x.text, "@", "$")
		text, to := at(text, "$", "@")
		tr := read(t, text)
		want := 0
		if (x.e == api.OK) != (to >= 0) {
			t.Fatalf("the test's own text is wrong: %q", x.text)
		}
		if x.e == api.OK {
			want = typeAt(t, tr, to)
		}
		if k, e := scope.Through(tr, typeAt(t, tr, from)); k != want || e != x.e {
			t.Errorf("%q: Through: %d, %d; it is %d, %d", x.text, k, e, want, x.e)
		}
	}
}

// P7.1: numbers that are no types', in trees with and without types and aliases.
func TestThroughNone(t *testing.T) {
	for _, text := range []string{"x", "fun x -> x y", "(1 : int)", "(1 : A)", "type A = A; 1", "type A = int -> int; (1 : A => A)"} {
		x := read(t, text)
		for _, i := range outside(len(x.Types)) {
			if k, e := scope.Through(x, i); k != 0 || e != api.ErrNone {
				t.Errorf("%q: Through of %d: %d, %d", text, i, k, e)
			}
		}
	}
}
