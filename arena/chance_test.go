package arena_test

import (
	"math/rand"
	"slices"
	"testing"

	"azimuth/api"
)

func by(i int) *rand.Rand { return rand.New(rand.NewSource(int64(i))) }

// anyHead: a head whose kids are numbers of so many parts, or heads.
func anyHead(chance *rand.Rand, n int) api.Head {
	h := api.Head{Kind: []int{
		api.TFun, api.TRecord, api.TVariant, api.TFun, api.TInt, api.TVariant, api.TRecord, api.TAny, api.TNone, api.TDyn, api.TStr, api.TBool, api.TFloat,
	}[chance.Intn(13)]}
	kids := 0
	switch h.Kind {
	case api.TFun:
		kids = 2
	case api.TRecord, api.TVariant:
		for _, name := range []string{"a", "ab", "b"} {
			if chance.Intn(2) == 0 {
				h.Names = append(h.Names, name)
			}
		}
		kids = len(h.Names)
		h.Open = h.Kind == api.TVariant && chance.Intn(2) == 0
	}
	for range kids {
		h.Kids = append(h.Kids, chance.Intn(n))
	}
	return h
}

// anyGraph: a graph of few kinds of heads and few names, some of them alike.
func anyGraph(chance *rand.Rand) api.Graph {
	n := 1 + chance.Intn(8)
	g := api.Graph{Root: chance.Intn(n)}
	for range n {
		g.L = append(g.L, anyHead(chance, n))
	}
	return g
}

// spoilt: a head with a change, with which it may still be, or not.
func spoilt(chance *rand.Rand, h api.Head, n int) api.Head {
	switch chance.Intn(7) {
	case 0:
		h.Kind = chance.Intn(api.TKinds+2) - 1
	case 1:
		h.Kids = append(h.Kids, chance.Intn(n+2)-1)
	case 2:
		if k := len(h.Kids); k > 0 {
			h.Kids[chance.Intn(k)] = chance.Intn(n+3) - 1
		}
	case 3:
		h.Names = append(h.Names, []string{"a", "b", "c", "ac"}[chance.Intn(4)])
	case 4:
		if k := len(h.Names); k > 0 {
			h.Names[chance.Intn(k)] = []string{"a", "b", "aa", "ab", "of"}[chance.Intn(5)]
		}
	case 5:
		h.Open = !h.Open
	case 6:
		if k := len(h.Kids); k > 0 {
			h.Kids = h.Kids[:k-1]
		}
	}
	return h
}

// done: one thing by chance is done to an arena.
func done(chance *rand.Rand, x *two) {
	x.t.Helper()
	n := x.Len()
	number := func() int {
		if chance.Intn(8) == 0 {
			return outside(n)[chance.Intn(6)]
		}
		return chance.Intn(n + 1)
	}
	switch chance.Intn(14) {
	case 0, 1:
		x.Var(chance.Intn(6) - 1)
	case 2:
		x.Head(anyHead(chance, n+1))
	case 3:
		x.Head(anyHead(chance, max(n, 1)))
	case 4:
		x.Head(spoilt(chance, anyHead(chance, max(n, 1)), n))
	case 5:
		if chance.Intn(4) == 0 {
			g := anyGraph(chance)
			if k := chance.Intn(len(g.L)); chance.Intn(2) == 0 {
				g.L[k] = spoilt(chance, g.L[k], len(g.L))
			}
			x.Graph(g)
		}
	default:
		x.Bound(number(), number(), chance.Intn(2) == 0)
	}
}

// P12.1, P12.2: arenas of any room to which things are done by chance, are as the words say behind each of them.
func TestChance(t *testing.T) {
	filled, bounds, heads := 0, 0, 0
	for i := range 1500 {
		chance := by(i)
		x := pair(t, 1+chance.Intn(30))
		for range 90 {
			done(chance, x)
			x.asAnew("by chance")
		}
		if x.Len() == x.words.most {
			filled++
		}
		for _, p := range x.words.parts {
			if len(p.low) > 1 && len(p.high) > 1 && !slices.IsSorted(p.low) {
				bounds++
			}
			if !p.isVar && p.level > 0 {
				heads++
			}
		}
	}
	if filled < 500 || bounds < 300 || heads < 1000 {
		t.Error(filled, bounds, heads)
	}
}

// R5: what is told hangs on nothing but what was told to the arena before: the same done again tells the same, whatever is done to others between.
func TestDoneAgain(t *testing.T) {
	for i := range 100 {
		one, other, between := by(i), by(i), by(i+1000)
		x, y, z := pair(t, 30), pair(t, 30), pair(t, 30)
		for range 60 {
			done(one, x)
			done(between, z)
			done(other, y)
		}
		y.asAnew("done again")
		x.words = y.words
		x.asAnew("done again")
	}
}
