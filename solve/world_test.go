package solve_test

import (
	"fmt"
	"math/rand"
	"slices"
	"strconv"
	"strings"
	"testing"

	"azimuth/api"
	"azimuth/arena"
	"azimuth/graph"
	"azimuth/parse"
	"azimuth/solve"
)

const (
	most  = int(^uint(0) >> 1)
	least = -most - 1
)

func by(i int) *rand.Rand { return rand.New(rand.NewSource(int64(i))) }

// world is an arena with a solver. Parts are told by texts of types; an alias in these is a variable.
type world struct {
	t *testing.T
	*arena.Arena
	solver  *solve.Solver
	level   func(name string) int // that of a variable
	parts   map[string]int
	claims  []claim      // those that were made and weren't refused
	foreign map[int]bool // the parts that the solver made
	refused api.Errno
}

func newWorld(t *testing.T, room int) *world {
	t.Helper()
	a, e := arena.New(room)
	if e != api.OK {
		t.Fatal(e)
	}
	return worldOf(t, a)
}

func worldOf(t *testing.T, a *arena.Arena) *world {
	t.Helper()
	s := solve.New(a)
	if s == nil {
		t.Fatal("New of an arena: nil")
	}
	return &world{t: t, Arena: a, solver: s, level: digits, parts: map[string]int{}, foreign: map[int]bool{}}
}

// digits: the number at a name's end; without one 0.
func digits(name string) int {
	n, _ := strconv.Atoi(strings.TrimLeft(name, "ABCDEFGHIJKLMNOPQRSTUVWXYZabcdefghijklmnopqrstuvwxyz"))
	return n
}

// part: the number of a text's part, the same for the same text. One with aliases of its own ahead, "type A = ..; A", goes in as a graph.
func (w *world) part(text string) int {
	w.t.Helper()
	if i, known := w.parts[text]; known {
		return i
	}
	i := 0
	if strings.HasPrefix(text, "type") {
		i = w.round(text)
	} else {
		tree, d := parse.Type([]byte(text))
		if d.Error != api.OK {
			w.t.Fatalf("the test's own text is wrong: %q: %v", text, d)
		}
		i = w.typed(tree, len(tree.Types)-1)
	}
	w.parts[text] = i
	return i
}

func (w *world) round(text string) int {
	w.t.Helper()
	at := strings.LastIndex(text, ";") + 1
	tree, d := parse.Text([]byte(text[:at] + "(x : " + text[at:] + ")"))
	if d.Error != api.OK {
		w.t.Fatalf("the test's own text is wrong: %q: %v", text, d)
	}
	g, e := graph.Of(tree, tree.Nodes[len(tree.Nodes)-1].Types[0])
	if e != api.OK {
		w.t.Fatal(text, e)
	}
	return w.ok(w.Graph(g))
}

// typed: the part of a tree's type.
func (w *world) typed(tree api.Tree, at int) int {
	w.t.Helper()
	n := tree.Types[at]
	if n.Kind == api.TAlias {
		i, known := w.parts[n.Name]
		if !known {
			i = w.ok(w.Var(w.level(n.Name)))
			w.parts[n.Name] = i
		}
		return i
	}
	kids := map[string]int{}
	h := api.Head{Kind: n.Kind, Names: slices.Clone(n.Names), Open: n.Open}
	for k, kid := range n.Kids {
		i := w.typed(tree, kid)
		if n.Kind == api.TFun {
			h.Kids = append(h.Kids, i)
		} else {
			kids[n.Names[k]] = i
		}
	}
	slices.Sort(h.Names)
	for _, name := range h.Names {
		h.Kids = append(h.Kids, kids[name])
	}
	return w.ok(w.Head(h))
}

func (w *world) ok(i int, e api.Errno) int {
	w.t.Helper()
	if e != api.OK {
		w.t.Fatalf("the test's own part is wrong: %d", e)
	}
	return i
}

// text of a part, as far as it was told by one.
func (w *world) text(i int) string {
	for text, j := range w.parts {
		if i == j {
			return fmt.Sprintf("%d (%s)", i, text)
		}
	}
	return strconv.Itoa(i)
}

// claim claims one part below another one, and looks whether the answer is the one that is wanted, and that of the words, and whether all that is told behind it is as it should be.
func (w *world) claim(below, above string, want api.Errno) {
	w.t.Helper()
	i, j := w.part(below), w.part(above)
	if e := w.claimed(i, j); e != want {
		w.t.Fatalf("%s below %s, behind %v: %d; it is %d", w.text(i), w.text(j), w.claims, e, want)
	}
}

// claimed claims so by numbers, in an arena with room for all, and hands the answer on.
func (w *world) claimed(i, j int) api.Errno {
	w.t.Helper()
	was := toldOf(w.Arena)
	e := w.solver.Claim(i, j)
	all := follows(w.Arena, append(slices.Clone(w.claims), claim{i, j}))
	want := api.OK
	if len(all.clashes) > 0 || w.refused != api.OK {
		want = api.ErrClash
	}
	if e != want {
		w.t.Fatalf("%s below %s, behind %v: %d; the words say %d", w.text(i), w.text(j), w.claims, e, want)
	}
	if e == api.OK {
		w.claims = append(w.claims, claim{i, j})
	}
	for i := len(was); i < w.Len(); i++ {
		w.foreign[i] = true
	}
	w.looked(e, all)
	w.grew(was, e)
	if e == api.OK {
		w.noted(i, j)
		w.bounds(all)
	}
	w.refused = e
	return e
}

// looked looks at what the solver tells behind a claim.
func (w *world) looked(e api.Errno, all *closure) {
	w.t.Helper()
	if n := w.solver.Claims(); n != len(w.claims) {
		w.t.Errorf("Claims: %d; there are %d", n, len(w.claims))
	}
	i, j, clash := w.solver.Clash()
	switch {
	case clash != (e == api.ErrClash):
		w.t.Errorf("behind %d Clash tells %v", e, clash)
	case !clash && (i != 0 || j != 0):
		w.t.Errorf("Clash: %d, %d, without one", i, j)
	case clash && w.refused == api.OK && !all.isClash(i, j):
		w.t.Errorf("Clash: %s, %s; clashes are %v", w.text(i), w.text(j), all.clashes)
	}
}

// grew looks whether all parts are as they were, but for bounds; behind a claim that is refused nothing is new, but an any, of which a clash may be.
func (w *world) grew(was []told, e api.Errno) {
	w.t.Helper()
	is := toldOf(w.Arena)
	if wrong := grown(was, is); wrong != "" {
		w.t.Fatal(wrong)
	}
	if e == api.OK {
		return
	}
	if i, _, clash := w.solver.Clash(); len(is) == len(was)+1 && clash && w.refused == api.OK && i == len(was) && is[i].head.Kind == api.TAny {
		is = is[:i]
	}
	if !equal(was, is) {
		w.t.Fatalf("behind %d the arena isn't as it was", e)
	}
}

// noted looks whether what was claimed to be below, or above, a variable is a bound of it, as far as levels let it; of a head of a level above there is one like it.
func (w *world) noted(i, j int) {
	w.t.Helper()
	if w.IsVar(i) && !w.isBound(w.High(i), j, w.Level(i)) {
		w.t.Errorf("%s below %s isn't noted above that: %v", w.text(i), w.text(j), w.High(i))
	}
	if w.IsVar(j) && !w.isBound(w.Low(j), i, w.Level(j)) {
		w.t.Errorf("%s below %s isn't noted below this: %v", w.text(i), w.text(j), w.Low(j))
	}
}

func (w *world) isBound(bounds []int, i, level int) bool {
	if w.Level(i) <= level {
		return slices.Contains(bounds, i)
	}
	if w.IsVar(i) {
		return true // it is noted on its own side
	}
	h := headAt(w.Arena, i)
	return slices.ContainsFunc(bounds, func(k int) bool {
		like, isHead := w.At(k)
		return isHead && like.Kind == h.Kind && like.Open == h.Open && slices.Equal(like.Names, h.Names)
	})
}

// bounds looks whether none is of a level above its variable's, and whether those that are of parts which the test made follow from the claims.
func (w *world) bounds(all *closure) {
	w.t.Helper()
	for v := range w.Len() {
		for _, i := range w.Low(v) {
			w.bound(v, i, i, v, all)
		}
		for _, i := range w.High(v) {
			w.bound(v, i, v, i, all)
		}
	}
}

func (w *world) bound(v, i, below, above int, all *closure) {
	w.t.Helper()
	if w.Level(i) > w.Level(v) {
		w.t.Fatalf("%s, of level %d, is a bound of %s, of level %d", w.text(i), w.Level(i), w.text(v), w.Level(v))
	}
	if !w.foreign[v] && !w.foreign[i] && !all.isSo(below, above) {
		w.t.Fatalf("%s below %s is noted, and doesn't follow", w.text(below), w.text(above))
	}
}
