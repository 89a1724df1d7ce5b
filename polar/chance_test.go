package polar_test

import (
	"math/rand"
	"testing"

	"azimuth/api"
	"azimuth/arena"
	"azimuth/polar"
)

// anyHead: a head of few names, its kids some of so many parts.
func anyHead(chance *rand.Rand, n int) api.Head {
	kinds := []int{
		api.TFun, api.TRecord, api.TVariant, api.TFun, api.TInt, api.TVariant, api.TRecord, api.TAny, api.TNone, api.TRecord, api.TVariant, api.TDyn, api.TVariant, api.TStr, api.TFun,
	}
	return headOfKind(chance, n, kinds[chance.Intn(len(kinds))])
}

func headOfKind(chance *rand.Rand, n, kind int) api.Head {
	h := api.Head{Kind: kind}
	kids := 0
	switch kind {
	case api.TFun:
		kids = 2
	case api.TRecord, api.TVariant:
		for _, name := range []string{"a", "b", "c"} {
			if chance.Intn(3) > 0 {
				h.Names = append(h.Names, name)
			}
		}
		kids = len(h.Names)
		h.Open = kind == api.TVariant && chance.Intn(2) == 0
	}
	for range kids {
		h.Kids = append(h.Kids, chance.Intn(n))
	}
	return h
}

// bare: parts by chance, without bounds, always the same for a number.
func bare(number int) (*arena.Arena, *rand.Rand) {
	chance := rand.New(rand.NewSource(int64(number)))
	a, _ := arena.New(api.MaxArena)
	for range 1 + chance.Intn(5) {
		a.Var(chance.Intn(4))
	}
	for range chance.Intn(14) {
		switch n := a.Len(); chance.Intn(8) {
		case 0:
			a.Var(chance.Intn(4))
		case 1:
			a.Graph(anyGraph(chance, 3))
		default:
			a.Head(anyHead(chance, n))
		}
	}
	return a, chance
}

// scene: such parts, with bounds by chance.
func scene(number int) (*arena.Arena, *rand.Rand) {
	a, chance := bare(number)
	var vars []int
	for i := range a.Len() {
		if a.IsVar(i) {
			vars = append(vars, i)
		}
	}
	for range chance.Intn(6 * len(vars)) {
		a.Bound(vars[chance.Intn(len(vars))], chance.Intn(a.Len()), chance.Intn(2) == 0)
	}
	return a, chance
}

// anyGraph: of at most so many heads.
func anyGraph(chance *rand.Rand, most int) api.Graph {
	var g api.Graph
	n := 1 + chance.Intn(most)
	for range n {
		g.L = append(g.L, anyHead(chance, n))
	}
	g.Root = chance.Intn(n)
	return g
}

// P15.1: of parts and bounds by chance the automata of all parts, above each level, are as the words say.
func TestChance(t *testing.T) {
	states, vars, several := 0, 0, 0
	for number := range 1500 {
		a, chance := scene(number)
		above := chance.Intn(5) - 1
		for i := range a.Len() {
			x := of(t, a, i, above)
			states += len(x.L)
			for _, s := range x.L {
				vars += len(s.Vars)
				if len(s.Heads) > 1 {
					several++
				}
			}
		}
	}
	if states < 40000 || vars < 15000 || several < 7000 {
		t.Error(states, vars, several)
	}
}

// P15.1, R3: with each most an automaton is told just if it has no more states.
func TestMostByChance(t *testing.T) {
	for number := range 300 {
		a, _ := scene(number)
		for i := range a.Len() {
			x, e := polar.Of(a, i, 0, api.MaxStates)
			if e != api.OK {
				continue
			}
			for n := 1; n < min(len(x.L)+3, 40); n++ {
				if n < len(x.L) {
					tooMany(t, a, i, 0, n)
				} else if y, e := polar.Of(a, i, 0, n); e != api.OK || !equal(x, y) {
					t.Fatal(number, i, n, e)
				}
			}
		}
	}
}

// anyAuto: states by chance, most of which may be; kids are mostly of the sign that they should be of.
func anyAuto(chance *rand.Rand) polar.Auto {
	x := polar.Auto{}
	n := 1 + chance.Intn(6)
	signs := map[bool][]int{}
	for i := range n {
		plus := i == 0 || chance.Intn(2) == 0
		signs[plus] = append(signs[plus], i)
		x.L = append(x.L, polar.State{Plus: plus})
	}
	kid := func(plus bool) int {
		if l := signs[plus]; len(l) > 0 && chance.Intn(40) > 0 {
			return l[chance.Intn(len(l))]
		}
		return chance.Intn(n)
	}
	for i := range x.L {
		s := &x.L[i]
		for v := range 4 {
			if chance.Intn(4) == 0 {
				s.Vars = append(s.Vars, v)
			}
		}
		for kind := range api.TKinds - 1 {
			if chance.Intn(9) > 0 || kind == map[bool]int{true: api.TNone, false: api.TAny}[s.Plus] && chance.Intn(20) > 0 {
				continue
			}
			h := headOfKind(chance, n, kind)
			for k := range h.Kids {
				h.Kids[k] = kid(s.Plus != (kind == api.TFun && k == 0))
			}
			s.Heads = append(s.Heads, h)
		}
		if len(s.Heads) == 1 && (s.Heads[0].Kind == api.TAny || s.Heads[0].Kind == api.TNone) && chance.Intn(10) > 0 {
			s.Vars = nil
		}
	}
	return x
}

// spoil changes something in an automaton, by chance.
func spoil(chance *rand.Rand, x *polar.Auto) {
	s := &x.L[chance.Intn(len(x.L))]
	switch chance.Intn(9) {
	case 0:
		x.Root = chance.Intn(len(x.L)+2) - 1
	case 1:
		s.Plus = !s.Plus
	case 2:
		s.Vars = append(s.Vars, chance.Intn(6)-1)
	case 3:
		s.Heads = append(s.Heads, anyHead(chance, len(x.L)))
	case 4:
		s.Heads = nil
	default:
		if len(s.Heads) > 0 {
			spoilHead(chance, &s.Heads[chance.Intn(len(s.Heads))], len(x.L))
		}
	}
}

func spoilHead(chance *rand.Rand, h *api.Head, n int) {
	switch chance.Intn(6) {
	case 0:
		h.Kind = chance.Intn(api.TKinds+2) - 1
	case 1:
		h.Open = !h.Open
	case 2:
		h.Names = append(h.Names, []string{"a", "b", "d", "let", "A"}[chance.Intn(5)])
	case 3:
		h.Kids = append(h.Kids, chance.Intn(n))
	default:
		if len(h.Kids) > 0 {
			h.Kids[chance.Intn(len(h.Kids))] = chance.Intn(n+2) - 1
		}
	}
}

// P15.1: of automata by chance, and such as something is changed in, Check and Reach tell what the words say.
func TestCheckByChance(t *testing.T) {
	met := map[bool]int{}
	for number := range 20000 {
		chance := rand.New(rand.NewSource(int64(number)))
		x := anyAuto(chance)
		met[asked(t, "by chance", x)]++
		for range 2 {
			spoil(chance, &x)
			met[asked(t, "spoilt", x)]++
		}
	}
	if met[true] < 10000 || met[false] < 10000 {
		t.Error(met)
	}
}

// P15.1: of graphs by chance, whose automata are those of their parts, too.
func TestClosedByChance(t *testing.T) {
	states := 0
	for number := range 5000 {
		chance := rand.New(rand.NewSource(int64(number)))
		states += len(closed(t, "a graph by chance", anyGraph(chance, 9)).L)
	}
	if states < 15000 {
		t.Error(states)
	}
}
