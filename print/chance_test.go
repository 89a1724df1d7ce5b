package print

import (
	"math/rand"
	"strconv"
	"strings"
	"testing"

	"azimuth/api"
	"azimuth/floats"
	"azimuth/lexer"
	"azimuth/parse"
	"azimuth/tree"
)

// maker makes trees by chance.
type maker struct {
	chance *rand.Rand
	fuel   int
}

// one of some choices; the last ones are there while there is fuel.
func (m *maker) one(short, all int) int {
	m.fuel--
	if m.fuel <= 0 {
		return m.chance.Intn(short)
	}
	return m.chance.Intn(all)
}

func (m *maker) some() int { return max(0, m.chance.Intn(6)-2) }

func (m *maker) pick(texts string) string {
	l := strings.Fields(texts)
	return l[m.chance.Intn(len(l))]
}

func (m *maker) name() string { return m.pick("x y f g a b _ f0 e1 lets in_ x9") }

func (m *maker) alias() string { return m.pick("A B T Int X9 Zz") }

// own are names, or tags, each there once.
func (m *maker) own(texts string, n int) []string {
	l := strings.Fields(texts)
	m.chance.Shuffle(len(l), func(i, j int) { l[i], l[j] = l[j], l[i] })
	return l[:n]
}

func (m *maker) names(n int) []string { return m.own("x y f a b _ c1 lets", n) }

func (m *maker) tags(n int) []string {
	return m.own("x y f a fun let rec in if then else case of end true false int type", n)
}

func (m *maker) text() string {
	const signs = "ab\"\\\n/(#' \u20ac\U00010000"
	var s []rune
	for range m.some() {
		l := []rune(signs)
		s = append(s, l[m.chance.Intn(len(l))])
	}
	return string(s)
}

func (m *maker) float() uint64 {
	if m.chance.Intn(4) == 0 {
		return uint64(floats.Of(0x7ff0000000000000 + uint64(m.chance.Intn(2))))
	}
	return uint64(floats.Of(m.chance.Uint64()))
}

func (m *maker) terms(n int) []term {
	var l []term
	for range n {
		l = append(l, m.term())
	}
	return l
}

func (m *maker) term() term {
	kinds := []int{api.Var, api.Int, api.Bool, api.Str, api.Float, api.Record, api.Fun, api.App, api.Let, api.LetRec, api.If, api.Case, api.Tag, api.Record, api.Select, api.Ascribe, api.Cast, api.Op, api.Op, api.Op, api.App}
	x := term{head: api.Node{Kind: kinds[m.one(5, len(kinds))]}}
	switch x.head.Kind {
	case api.Var:
		x.head.Name = m.name()
	case api.Int:
		x.head.Int = m.chance.Int63() >> m.chance.Intn(63)
	case api.Bool:
		x.head.Int = int64(m.chance.Intn(2))
	case api.Str:
		x.head.Name = m.text()
	case api.Float:
		x.head.Bits = m.float()
	case api.Fun, api.Select:
		x.head.Name, x.kids = m.name(), m.terms(1)
	case api.App:
		x.kids = m.terms(2)
	case api.Let, api.LetRec:
		x.head.Name, x.kids = m.name(), m.terms(2)
	case api.If:
		x.kids = m.terms(3)
	case api.Case:
		for _, tag := range m.tags(m.some()) {
			x.head.Names = append(x.head.Names, tag, m.name())
		}
		x.kids = m.terms(1 + len(x.head.Names)/2 + m.chance.Intn(2))
	case api.Tag:
		x.head.Name, x.kids = m.tags(1)[0], m.terms(1)
	case api.Record:
		x.head.Names = m.names(m.some())
		x.kids = m.terms(len(x.head.Names))
	case api.Op:
		x.head.Name, x.kids = m.pick("+ - * / +. -. *. /. < <. == ^"), m.terms(2)
	case api.Ascribe:
		x.kids, x.types = m.terms(1), m.types(1)
	case api.Cast:
		x.kids, x.types = m.terms(1), m.types(2)
	}
	return x
}

func (m *maker) types(n int) []typed {
	var l []typed
	for range n {
		l = append(l, m.typed())
	}
	return l
}

func (m *maker) typed() typed {
	kinds := []int{api.TInt, api.TBool, api.TStr, api.TFloat, api.TDyn, api.TAny, api.TNone, api.TAlias, api.TFun, api.TFun, api.TFun, api.TFun, api.TRecord, api.TRecord, api.TVariant, api.TVariant}
	x := typed{head: api.TypeNode{Kind: kinds[m.one(8, len(kinds))]}}
	switch x.head.Kind {
	case api.TAlias:
		x.head.Name = m.alias()
	case api.TFun:
		x.kids = m.types(2)
	case api.TRecord:
		x.head.Names = m.names(m.some())
		x.kids = m.types(len(x.head.Names))
	case api.TVariant:
		x.head.Open = m.chance.Intn(2) == 0
		x.head.Names = m.tags(m.some())
		x.kids = m.types(len(x.head.Names))
	}
	return x
}

func (m *maker) aliases() []named {
	var l []named
	for range m.some() {
		l = append(l, named{name: m.alias(), of: m.typed()})
	}
	return l
}

// opened and closed are brackets that may not be needed; no text of a tree has these signs.
const opened, closed = "\x01", "\x02"

// full: a term's text with brackets around each term and type in it.
func (x term) full() string {
	n := x.head
	var kids []string
	for _, k := range x.kids {
		kids = append(kids, opened+k.full()+closed)
	}
	switch n.Kind {
	case api.Int:
		return strconv.FormatInt(n.Int, 10)
	case api.Bool:
		return []string{"false", "true"}[n.Int]
	case api.Str:
		return lexer.Quote(n.Name)
	case api.Float:
		return floats.Float(n.Bits).Text()
	case api.Fun:
		return "fun " + n.Name + " -> " + kids[0]
	case api.App:
		return kids[0] + " " + kids[1]
	case api.Let:
		return "let " + n.Name + " = " + kids[0] + " in " + kids[1]
	case api.LetRec:
		return "let rec " + n.Name + " = " + kids[0] + " in " + kids[1]
	case api.If:
		return "if " + kids[0] + " then " + kids[1] + " else " + kids[2]
	case api.Case:
		s := "case " + kids[0] + " of "
		for i, k := range kids[1:] {
			begin := "else"
			if 2*i < len(n.Names) {
				begin = "#" + n.Names[2*i] + " " + n.Names[2*i+1]
			}
			s += "| " + begin + " -> " + k + " "
		}
		return s + "end"
	case api.Tag:
		return "#" + n.Name + " " + kids[0]
	case api.Record:
		for i := range kids {
			kids[i] = n.Names[i] + " = " + kids[i]
		}
		return "{" + strings.Join(kids, ", ") + "}"
	case api.Select:
		return kids[0] + "." + n.Name
	case api.Op:
		return kids[0] + " " + n.Name + " " + kids[1]
	case api.Ascribe:
		return "(" + kids[0] + " : " + x.types[0].inBrackets() + ")"
	case api.Cast:
		return "(" + kids[0] + " : " + x.types[0].inBrackets() + " => " + x.types[1].inBrackets() + ")"
	}
	return n.Name
}

func (x typed) inBrackets() string { return opened + x.full() + closed }

// full: a type's text so.
func (x typed) full() string {
	var kids []string
	for _, k := range x.kids {
		kids = append(kids, k.inBrackets())
	}
	switch x.head.Kind {
	case api.TAlias:
		return x.head.Name
	case api.TFun:
		return kids[0] + " -> " + kids[1]
	case api.TRecord:
		for i := range kids {
			kids[i] = x.head.Names[i] + ": " + kids[i]
		}
		return "{" + strings.Join(kids, ", ") + "}"
	case api.TVariant:
		for i := range kids {
			kids[i] = "#" + x.head.Names[i] + " " + kids[i]
		}
		if x.head.Open {
			kids = append(kids, "..")
		}
		return "[" + strings.Join(kids, " | ") + "]"
	}
	return strings.Fields("int bool str float dyn any none")[x.head.Kind]
}

// pairs are the places of brackets that belong together.
func pairs(s string) [][2]int {
	var l [][2]int
	var open []int
	for i := range len(s) {
		switch s[i : i+1] {
		case opened:
			open = append(open, i)
		case closed:
			l = append(l, [2]int{open[len(open)-1], i})
			open = open[:len(open)-1]
		}
	}
	return l
}

// without: a text without some of its brackets.
func without(s string, l ...[2]int) string {
	b := []byte(s)
	for _, p := range l {
		b[p[0]], b[p[1]] = 3, 3
	}
	return strings.ReplaceAll(string(b), "\x03", "")
}

// asRead: a text, with brackets that are those of the grammar.
func asRead(s string) string {
	return strings.NewReplacer(opened, "(", closed, ")").Replace(s)
}

// fewest takes brackets from a text, one pair after another, by chance, as long as it is read as the same.
func fewest(chance *rand.Rand, s string, same func(text string) bool) string {
	turns := pairs(s)
	chance.Shuffle(len(turns), func(i, j int) { turns[i], turns[j] = turns[j], turns[i] })
	b := []byte(s)
	for _, p := range turns {
		if same(asRead(strings.ReplaceAll(without(string(b), p), "\x03", ""))) {
			b[p[0]], b[p[1]] = 3, 3
		}
	}
	return strings.ReplaceAll(string(b), "\x03", "")
}

// P6.1, P6.2: trees made by chance: with the fewest brackets, with which the grammar reads the same tree again.
func TestChance(t *testing.T) {
	for i := range 3000 {
		chance := rand.New(rand.NewSource(int64(i)))
		m := maker{chance: chance, fuel: chance.Intn(16)}
		x, aliases := m.term(), m.aliases()
		all := laidAnyhow(chance, x, aliases...)
		full := ""
		for _, a := range aliases {
			full += "type " + a.name + " = " + a.of.inBrackets() + ";\n"
		}
		full += opened + x.full() + closed
		same := func(text string) bool {
			y, d := parse.Text([]byte(text))
			return d.Error == api.OK && tree.Same(all, y)
		}
		if !same(asRead(full)) {
			t.Fatalf("the test's own text is wrong: %q", asRead(full))
		}
		want := fewest(chance, full, same)
		prints(t, all, asRead(want))
		if l := pairs(want); len(l) <= 6 {
			for some := 1; some < 1<<len(l); some++ {
				var out [][2]int
				for k := range l {
					if some>>k&1 == 1 {
						out = append(out, l[k])
					}
				}
				if same(asRead(without(want, out...))) {
					t.Errorf("%q needs less brackets", asRead(want))
				}
			}
		}
	}
}

// P6.1, P6.2: great trees made by chance; their terms and types one by one are as they are in the whole.
func TestGreatChance(t *testing.T) {
	for i := range 300 {
		chance := rand.New(rand.NewSource(int64(i)))
		m := maker{chance: chance, fuel: 200}
		x, aliases := m.term(), m.aliases()
		all := laidAnyhow(chance, x, aliases...)
		b, e := Text(all)
		if e != api.OK {
			t.Fatal(e)
		}
		y, d := parse.Text(b)
		if d.Error != api.OK || !tree.Same(all, y) {
			t.Errorf("%s, %v", short(b), d)
		}
		if c, e := Text(y); e != api.OK || string(b) != string(c) {
			t.Errorf("%s, printed again, is %s", short(b), short(c))
		}
		whole, e := Term(all, len(all.Nodes)-1)
		if e != api.OK || !strings.HasSuffix("\n"+string(b), "\n"+string(whole)) || strings.Count(string(b), ";\n") != len(aliases) {
			t.Errorf("%s has the whole %s", short(b), short(whole))
		}
		for k := range all.Nodes {
			part, e := Term(all, k)
			if e != api.OK || !strings.Contains(string(b), string(part)) {
				t.Errorf("%s has %s", short(b), short(part))
			}
			z, d := parse.Text(part)
			if d.Error != api.OK || !tree.Same(z, laid(termOf(all, k))) {
				t.Errorf("%s is parsed to another term, %v", short(part), d)
			}
		}
		for k := range all.Types {
			part, e := Type(all, k)
			if e != api.OK || !strings.Contains(string(b), string(part)) {
				t.Errorf("%s has %s", short(b), short(part))
			}
			z, d := parse.Type(part)
			if d.Error != api.OK || !sameType(all, k, z, len(z.Types)-1) {
				t.Errorf("%s is parsed to another type, %v", short(part), d)
			}
		}
	}
}
