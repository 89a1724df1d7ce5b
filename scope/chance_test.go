package scope_test

import (
	"math"
	"math/rand"
	"slices"
	"strings"
	"testing"

	"azimuth/api"
	"azimuth/scope"
	"azimuth/tree"
)

// writer writes texts by chance.
type writer struct {
	chance *rand.Rand
	fuel   int
}

func (w *writer) pick(texts string) string {
	l := strings.Fields(texts)
	return l[w.chance.Intn(len(l))]
}

func (w *writer) name() string { return w.pick("x x y y z f g x1") }

// some writes one of the short texts, or, while there is fuel, one of the long ones.
func (w *writer) some(short string, long []func() string) string {
	w.fuel--
	if w.fuel <= 0 {
		return w.pick(short)
	}
	return long[w.chance.Intn(len(long))]()
}

func (w *writer) term() string {
	return "(" + w.some("x y z f g x1 x y z f g x1 1 true \"x\" {}", []func() string{
		w.name,
		func() string { return "fun " + w.name() + " -> " + w.term() },
		func() string { return w.term() + " " + w.term() },
		func() string { return "let " + w.name() + " = " + w.term() + " in " + w.term() },
		func() string {
			return "let rec " + w.name() + " = fun " + w.name() + " -> " + w.term() + " in " + w.term()
		},
		func() string { return "let rec " + w.name() + " = " + w.term() + " in " + w.term() },
		func() string { return "if " + w.term() + " then " + w.term() + " else " + w.term() },
		w.arms,
		w.arms,
		func() string { return "#x " + w.term() },
		func() string { return "{x = " + w.term() + ", y = " + w.term() + "}" },
		func() string { return w.term() + ".x" },
		func() string { return w.term() + " + " + w.term() },
		func() string { return "(" + w.term() + " : " + w.typed() + ")" },
		func() string { return "(" + w.term() + " : " + w.typed() + " => " + w.typed() + ")" },
	}) + ")"
}

func (w *writer) arms() string {
	s := "case " + w.term() + " of"
	for _, tag := range strings.Fields("x y z w")[w.chance.Intn(5):] {
		s += " | #" + tag + " " + w.name() + " -> " + w.term()
	}
	if w.chance.Intn(2) == 0 {
		s += " | else -> " + w.term()
	}
	return s + " end"
}

func (w *writer) alias() string { return w.pick("A B C D A1 A B C D E") }

func (w *writer) typed() string {
	return "(" + w.some("A B C D int", []func() string{
		w.alias,
		w.alias,
		func() string { return w.typed() + " -> " + w.typed() },
		func() string { return "{x: " + w.typed() + ", y: " + w.typed() + "}" },
		func() string { return "[#x " + w.typed() + " | ..]" },
	}) + ")"
}

// text writes a text with aliases that mostly stand for one another.
func (w *writer) text() string {
	s := ""
	names := strings.Fields("A B C D A1")
	w.chance.Shuffle(len(names), func(i, j int) { names[i], names[j] = names[j], names[i] })
	if w.chance.Intn(3) == 0 {
		names = append(names, w.alias())
	}
	for _, name := range names[w.chance.Intn(len(names)):] {
		of := w.typed()
		if w.chance.Intn(3) > 0 {
			of = w.alias()
		}
		s += "type " + name + " = " + of + "; "
	}
	return s + w.term()
}

// turns are new numbers for parts, by chance, of which each has a greater one than its kids.
func turns(chance *rand.Rand, kids [][]int) []int {
	number := make([]int, len(kids))
	left := chance.Perm(len(kids))
	placed := map[int]bool{}
	for next := 0; len(left) > 0; next++ {
		k := slices.IndexFunc(left, func(i int) bool {
			return !slices.ContainsFunc(kids[i], func(kid int) bool { return !placed[kid] })
		})
		number[left[k]] = next
		placed[left[k]] = true
		left = slices.Delete(left, k, k+1)
	}
	return number
}

func moved(l, number []int) []int {
	var to []int
	for _, i := range l {
		to = append(to, number[i])
	}
	return to
}

// anyhow: the same tree, with other numbers, and with places by chance, of which many are the same.
func anyhow(chance *rand.Rand, x api.Tree) api.Tree {
	var kids, typeKids [][]int
	for _, n := range x.Nodes {
		kids = append(kids, n.Kids)
	}
	for _, n := range x.Types {
		typeKids = append(typeKids, n.Kids)
	}
	term, typed := turns(chance, kids), turns(chance, typeKids)
	y := api.Tree{Nodes: make([]api.Node, len(x.Nodes)), Types: make([]api.TypeNode, len(x.Types))}
	places := 1 + chance.Intn(6)
	place := func() int { return chance.Intn(places) - places/2 }
	for i, n := range x.Nodes {
		n.Kids, n.Types, n.Pos = moved(n.Kids, term), moved(n.Types, typed), place()
		y.Nodes[term[i]] = n
	}
	for i, n := range x.Types {
		n.Kids, n.Pos = moved(n.Kids, typed), place()
		y.Types[typed[i]] = n
	}
	for _, a := range x.Aliases {
		y.Aliases = append(y.Aliases, api.Alias{Name: a.Name, Type: typed[a.Type], Pos: place()})
	}
	return y
}

// P7.1: trees made by chance, as they are parsed, and with other numbers and places.
func TestChance(t *testing.T) {
	met := map[api.Errno]int{}
	for i := range 4000 {
		chance := rand.New(rand.NewSource(int64(i)))
		w := writer{chance: chance, fuel: chance.Intn(40)}
		x := read(t, w.text())
		asAnew(t, x)
		y := anyhow(chance, x)
		if !tree.Same(x, y) {
			t.Fatalf("the test's own tree is wrong: %v", y)
		}
		asAnew(t, y)
		if !slices.Equal(scope.Free(x), scope.Free(y)) {
			t.Errorf("%v: Free hangs on numbers", y)
		}
		met[scope.Check(y).Error]++
	}
	for _, e := range []api.Errno{api.OK, api.ErrArg, api.ErrName, api.ErrTwice, api.ErrLoop} {
		if met[e] < 50 {
			t.Errorf("of what is wrong by chance, %d is there %d times", e, met[e])
		}
	}
}

// P7.1: what is wrong at one place: first the least number, then the lesser Name; ahead of it what is at a lesser place.
func TestOnePlace(t *testing.T) {
	// Each of what can be wrong, with two Names, of which the lesser one stands behind.
	x := read(t, "type B = B; type A = A; type D = int; type C = int; type D = int; type C = int; "+
		"{a = (1 : Q), b = (1 : P), c = let rec g = 1 in 1, d = let rec f = 1 in 1}")
	order := []api.Diag{
		{Error: api.ErrArg, Name: "f"}, {Error: api.ErrArg, Name: "g"},
		{Error: api.ErrName, Name: "P"}, {Error: api.ErrName, Name: "Q"},
		{Error: api.ErrTwice, Name: "C"}, {Error: api.ErrTwice, Name: "D"},
		{Error: api.ErrLoop, Name: "A"}, {Error: api.ErrLoop, Name: "B"},
	}
	places := make([]int, len(order)) // of each, as it is parsed
	for _, d := range allWrong(x) {
		places[slices.Index(order, api.Diag{Error: d.Error, Name: d.Name})] = d.Pos
	}
	// Some of them stand at 0, the others at 1, and parts of which nothing is wrong at -1.
	for chosen := range 1 << len(order) {
		to := map[int]int{}
		want := order[0]
		want.Pos = 1
		for k := len(order) - 1; k >= 0; k-- {
			to[places[k]] = 1
			if chosen>>k&1 == 1 {
				to[places[k]] = 0
				want = order[k]
			}
		}
		y := tree.Clone(x)
		move := func(place *int) {
			p, there := to[*place]
			if !there {
				p = -1
			}
			*place = p
		}
		for i := range y.Nodes {
			move(&y.Nodes[i].Pos)
		}
		for i := range y.Types {
			move(&y.Types[i].Pos)
		}
		for i := range y.Aliases {
			move(&y.Aliases[i].Pos)
		}
		if d := scope.Check(y); d != want {
			t.Errorf("chosen %b: Check: %d at %d, %q; it is %d at %d, %q", chosen, d.Error, d.Pos, d.Name, want.Error, want.Pos, want.Name)
		}
		asAnew(t, y)
	}
}

// P7.1: the least place is that of any number.
func TestPlaces(t *testing.T) {
	x := read(t, "type A = int; type A = A; type B = B; (let rec f = 1 in f : C)")
	type part struct {
		place *int
		diag  api.Diag
	}
	var kid int
	for _, n := range x.Nodes {
		if n.Kind == api.LetRec {
			kid = n.Kids[0]
		}
	}
	var unknown int
	for i, n := range x.Types {
		if n.Name == "C" {
			unknown = i
		}
	}
	parts := []part{
		{&x.Nodes[kid].Pos, api.Diag{Error: api.ErrArg, Name: "f"}},
		{&x.Types[unknown].Pos, api.Diag{Error: api.ErrName, Name: "C"}},
		{&x.Aliases[1].Pos, api.Diag{Error: api.ErrTwice, Name: "A"}},
		{&x.Aliases[2].Pos, api.Diag{Error: api.ErrLoop, Name: "B"}},
	}
	const least, most = math.MinInt, math.MaxInt
	for _, places := range [][2]int{{0, 1}, {-1, 0}, {least, most}, {least, 0}, {0, most}, {most - 1, most}, {least, least + 1}, {-2, -1}, {9, 10}, {-10, -9}} {
		for i := range parts {
			for k := range parts {
				*parts[k].place = places[1]
			}
			*parts[i].place = places[0]
			want := parts[i].diag
			want.Pos = places[0]
			if d := scope.Check(x); d != want {
				t.Errorf("at %v: Check: %d at %d, %q; it is %d at %d, %q", places, d.Error, d.Pos, d.Name, want.Error, want.Pos, want.Name)
			}
		}
	}
}
