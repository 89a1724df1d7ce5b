package parse

import (
	"fmt"
	"math"
	"math/rand"
	"reflect"
	"strconv"
	"strings"
	"testing"

	"azimuth/api"
	"azimuth/tree"
)

// term is a term with what it is made of in it; typed is a type so; named is an alias so.
type term struct {
	head  api.Node
	kids  []term
	types []typed
}

type typed struct {
	head api.TypeNode
	kids []typed
}

type named struct {
	name string
	pos  int
	of   typed
}

func termOf(t api.Tree, i int) term {
	x := term{head: t.Nodes[i]}
	for _, k := range x.head.Kids {
		x.kids = append(x.kids, termOf(t, k))
	}
	for _, k := range x.head.Types {
		x.types = append(x.types, typeOf(t, k))
	}
	x.head.Kids, x.head.Types = nil, nil
	if len(x.head.Names) == 0 {
		x.head.Names = nil
	}
	return x
}

func typeOf(t api.Tree, i int) typed {
	x := typed{head: t.Types[i]}
	for _, k := range x.head.Kids {
		x.kids = append(x.kids, typeOf(t, k))
	}
	x.head.Kids = nil
	if len(x.head.Names) == 0 {
		x.head.Names = nil
	}
	return x
}

func aliasesOf(t api.Tree) []named {
	var l []named
	for _, a := range t.Aliases {
		l = append(l, named{name: a.Name, pos: a.Pos, of: typeOf(t, a.Type)})
	}
	return l
}

// writer goes through the grammar, takes its choices by chance, writes a text, and tells what it wrote.
type writer struct {
	chance *rand.Rand
	text   strings.Builder
	last   string
	names  int
	fuel   int
}

// put writes a token, with blanks ahead of it, and tells its place.
func (w *writer) put(token string) int {
	blanks := []string{" ", "\n", "\t", "\r", "  ", " // (fun\n", "\n//\n"}
	const alone = "(){}[],;"
	if w.last == "" || strings.Contains(alone, token) || strings.Contains(alone, w.last) {
		blanks = append(blanks, "", "", "", "", "", "", "", "")
	}
	w.text.WriteString(blanks[w.chance.Intn(len(blanks))])
	w.last = token
	at := w.text.Len()
	w.text.WriteString(token)
	return at
}

// some: how often something is there that may be there at all, once, and many times.
func (w *writer) some() int {
	if w.fuel <= 0 {
		return 0
	}
	return max(0, w.chance.Intn(6)-2)
}

// one of some choices; the last ones are there while there is fuel.
func (w *writer) one(short, all int) int {
	w.fuel--
	if w.fuel <= 0 {
		return w.chance.Intn(short)
	}
	return w.chance.Intn(all)
}

// new is a name that isn't there yet.
func (w *writer) new() string {
	w.names++
	return "n" + strconv.Itoa(w.names)
}

// tag is one for the place i among others; it may be a word.
func (w *writer) tag(i int) string {
	words := strings.Fields("fun let rec in if then else case of end true false int bool str float dyn any none type")
	if w.chance.Intn(2) == 0 {
		return words[4*i+w.chance.Intn(4)]
	}
	return w.new()
}

func (w *writer) term() term {
	switch w.one(1, 8) {
	case 7:
		x := term{head: api.Node{Kind: api.Fun, Pos: w.put("fun"), Name: w.new()}}
		w.put(x.head.Name)
		w.put("->")
		x.kids = []term{w.term()}
		return x
	case 6:
		return w.let()
	case 5:
		x := term{head: api.Node{Kind: api.If, Pos: w.put("if")}}
		x.kids = append(x.kids, w.term())
		w.put("then")
		x.kids = append(x.kids, w.term())
		w.put("else")
		x.kids = append(x.kids, w.term())
		return x
	case 4:
		return w.cases()
	}
	left := w.row(0)
	if w.fuel > 0 && w.chance.Intn(3) == 0 {
		sign := []string{"==", "<", "<."}[w.chance.Intn(3)]
		at := w.put(sign)
		return op(at, sign, left, w.row(0))
	}
	return left
}

func op(at int, sign string, kids ...term) term {
	return term{head: api.Node{Kind: api.Op, Pos: at, Name: sign}, kids: kids}
}

func (w *writer) let() term {
	x := term{head: api.Node{Kind: api.Let, Pos: w.put("let"), Name: w.new()}}
	if w.chance.Intn(2) == 0 {
		w.put("rec")
		x.head.Kind = api.LetRec
	}
	w.put(x.head.Name)
	w.put("=")
	x.kids = append(x.kids, w.term())
	w.put("in")
	x.kids = append(x.kids, w.term())
	return x
}

func (w *writer) cases() term {
	x := term{head: api.Node{Kind: api.Case, Pos: w.put("case")}}
	x.kids = append(x.kids, w.term())
	w.put("of")
	for i := range w.some() {
		tag, name := w.tag(i), w.new()
		x.head.Names = append(x.head.Names, tag, name)
		w.put("|")
		w.put("#" + tag)
		w.put(name)
		w.put("->")
		x.kids = append(x.kids, w.term())
	}
	if w.chance.Intn(2) == 0 {
		w.put("|")
		w.put("else")
		w.put("->")
		x.kids = append(x.kids, w.term())
	}
	w.put("end")
	return x
}

// row is one of the rules join, sum and product, or, below them, an application.
func (w *writer) row(level int) term {
	levels := []string{"^", "+ - +. -.", "* / *. /."}
	if level == len(levels) {
		return w.apply()
	}
	left := w.row(level + 1)
	for range w.some() {
		signs := strings.Fields(levels[level])
		sign := signs[w.chance.Intn(len(signs))]
		at := w.put(sign)
		left = op(at, sign, left, w.row(level+1))
	}
	return left
}

func (w *writer) apply() term {
	left, _ := w.unit()
	for range w.some() {
		argument, at := w.unit()
		left = term{head: api.Node{Kind: api.App, Pos: at}, kids: []term{left, argument}}
	}
	return left
}

// unit tells its first token's place as well.
func (w *writer) unit() (term, int) {
	if w.one(2, 4) > 0 {
		return w.post()
	}
	tag := w.tag(0)
	at := w.put("#" + tag)
	kid, _ := w.post()
	return term{head: api.Node{Kind: api.Tag, Pos: at, Name: tag}, kids: []term{kid}}, at
}

func (w *writer) post() (term, int) {
	left, at := w.atom()
	for range w.some() {
		point, name := w.put("."), w.new()
		w.put(name)
		left = term{head: api.Node{Kind: api.Select, Pos: point, Name: name}, kids: []term{left}}
	}
	return left, at
}

func (w *writer) atom() (term, int) {
	var n api.Node
	written := w.new()
	switch w.one(6, 9) {
	case 0:
		n = api.Node{Kind: api.Var, Name: written}
	case 1:
		n = api.Node{Kind: api.Int, Int: []int64{0, 1, 10, math.MaxInt64}[w.chance.Intn(4)]}
		written = strconv.FormatInt(n.Int, 10)
	case 2:
		n = api.Node{Kind: api.Float, Bits: []uint64{0, 1 << 63, 0x3ff0000000000000, 0x7ff8000000000001}[w.chance.Intn(4)]}
		written = fmt.Sprintf("f'%016x", n.Bits)
	case 3:
		n, written = api.Node{Kind: api.Str, Name: "(a\"\n\\"}, `"(a\"\n\\"`
	case 4:
		n, written = api.Node{Kind: api.Bool, Int: 1}, "true"
	case 5:
		n, written = api.Node{Kind: api.Bool}, "false"
	case 6:
		return w.record()
	default:
		return w.bracket()
	}
	n.Pos = w.put(written)
	return term{head: n}, n.Pos
}

func (w *writer) record() (term, int) {
	x := term{head: api.Node{Kind: api.Record, Pos: w.put("{")}}
	for i := range w.some() {
		if i > 0 {
			w.put(",")
		}
		name := w.new()
		w.put(name)
		w.put("=")
		x.head.Names = append(x.head.Names, name)
		x.kids = append(x.kids, w.term())
	}
	w.put("}")
	return x, x.head.Pos
}

func (w *writer) bracket() (term, int) {
	at := w.put("(")
	x := w.term()
	kind := w.chance.Intn(3)
	if kind > 0 {
		x = term{head: api.Node{Kind: api.Ascribe, Pos: at}, kids: []term{x}}
		w.put(":")
		x.types = append(x.types, w.typed())
	}
	if kind > 1 {
		x.head.Kind = api.Cast
		w.put("=>")
		x.types = append(x.types, w.typed())
	}
	w.put(")")
	return x, at
}

func (w *writer) typed() typed {
	left := w.simple()
	if w.fuel <= 0 || w.chance.Intn(3) > 0 {
		return left
	}
	at := w.put("->")
	return typed{head: api.TypeNode{Kind: api.TFun, Pos: at}, kids: []typed{left, w.typed()}}
}

func (w *writer) simple() typed {
	words := strings.Fields("int bool str float dyn any none")
	switch i := w.one(8, 12); i {
	case 7:
		return typed{head: api.TypeNode{Kind: api.TAlias, Pos: w.put("Ab1"), Name: "Ab1"}}
	case 8:
		w.put("(")
		x := w.typed()
		w.put(")")
		return x
	case 9:
		return w.recordType()
	case 10, 11:
		return w.variant()
	default:
		return typed{head: api.TypeNode{Kind: i, Pos: w.put(words[i])}}
	}
}

func (w *writer) recordType() typed {
	x := typed{head: api.TypeNode{Kind: api.TRecord, Pos: w.put("{")}}
	for i := range w.some() {
		if i > 0 {
			w.put(",")
		}
		name := w.new()
		w.put(name)
		w.put(":")
		x.head.Names = append(x.head.Names, name)
		x.kids = append(x.kids, w.typed())
	}
	w.put("}")
	return x
}

func (w *writer) variant() typed {
	x := typed{head: api.TypeNode{Kind: api.TVariant, Pos: w.put("["), Open: w.chance.Intn(2) == 0}}
	for i := range w.some() {
		if i > 0 {
			w.put("|")
		}
		tag := w.tag(i)
		w.put("#" + tag)
		x.head.Names = append(x.head.Names, tag)
		x.kids = append(x.kids, w.simple())
	}
	if x.head.Open {
		if len(x.kids) > 0 {
			w.put("|")
		}
		w.put("..")
	}
	w.put("]")
	return x
}

// P5.1: many texts, with all kinds of terms and types, and where each begins.
func TestChance(t *testing.T) {
	chance := rand.New(rand.NewSource(5))
	kinds, typeKinds := map[int]bool{}, map[int]bool{}
	for range 4000 {
		w := &writer{chance: chance, fuel: chance.Intn(60)}
		var aliases []named
		for range max(0, chance.Intn(5)-2) {
			w.put("type")
			a := named{name: "A" + w.new(), pos: 0}
			a.pos = w.put(a.name)
			w.put("=")
			a.of = w.typed()
			w.put(";")
			aliases = append(aliases, a)
		}
		want := w.term()
		x, d := Text([]byte(w.text.String()))
		if d != (api.Diag{}) || tree.Check(x) != api.OK {
			t.Fatalf("%q: %v", w.text.String(), d)
		}
		if got := termOf(x, len(x.Nodes)-1); !reflect.DeepEqual(got, want) {
			t.Fatalf("%q:\n%+v, not\n%+v", w.text.String(), got, want)
		}
		if got := aliasesOf(x); !reflect.DeepEqual(got, aliases) {
			t.Fatalf("%q:\n%+v, not\n%+v", w.text.String(), got, aliases)
		}
		for _, n := range x.Nodes {
			kinds[n.Kind] = true
		}
		for _, n := range x.Types {
			typeKinds[n.Kind] = true
		}
	}
	if len(kinds) != api.Kinds || len(typeKinds) != api.TKinds {
		t.Error(kinds, typeKinds)
	}
}

// P5.1: many types alone.
func TestChanceOfTypes(t *testing.T) {
	chance := rand.New(rand.NewSource(6))
	for range 20000 {
		w := &writer{chance: chance, fuel: chance.Intn(40)}
		want := w.typed()
		x, d := Type([]byte(w.text.String()))
		if d != (api.Diag{}) || len(x.Nodes)+len(x.Aliases) > 0 {
			t.Fatalf("%q: %v", w.text.String(), d)
		}
		if got := typeOf(x, len(x.Types)-1); !reflect.DeepEqual(got, want) {
			t.Fatalf("%q:\n%+v, not\n%+v", w.text.String(), got, want)
		}
		mayBe(t, x)
	}
}

// mayBe looks whether the types of a tree without terms are as a tree's that may be.
func mayBe(t *testing.T, x api.Tree) {
	t.Helper()
	held := api.Node{Kind: api.Ascribe, Kids: []int{0}, Types: []int{len(x.Types) - 1}}
	if tree.Check(api.Tree{Nodes: []api.Node{{Kind: api.Int}, held}, Types: x.Types}) != api.OK {
		t.Fatalf("%v may not be", x)
	}
}
