package polar_test

import (
	"math/rand"
	"testing"

	"azimuth/api"
	"azimuth/arena"
	"azimuth/polar"
	"azimuth/solve"
)

// partOf: an automaton's part in an arena: each state is a variable, bound from the one side by the state's heads and variables.
func partOf(t *testing.T, a *arena.Arena, x polar.Auto) int {
	t.Helper()
	states, vars := make([]int, len(x.L)), map[int]int{}
	for i := range x.L {
		states[i], _ = a.Var(0)
	}
	for i, s := range x.L {
		for _, v := range s.Vars {
			if _, known := vars[v]; !known {
				vars[v], _ = a.Var(0)
			}
			a.Bound(states[i], vars[v], !s.Plus)
			a.Bound(vars[v], states[i], s.Plus)
		}
		for _, h := range s.Heads {
			own := api.Head{Kind: h.Kind, Names: h.Names, Open: h.Open}
			for _, kid := range h.Kids {
				own.Kids = append(own.Kids, states[kid])
			}
			k, e := a.Head(own)
			if e != api.OK {
				t.Fatal(e, own)
			}
			a.Bound(states[i], k, !s.Plus)
		}
	}
	return states[x.Root]
}

// P3, P15.1: what parts stand for, of which all that follows is noted, their automata stand for, too: a closed type is above both, or above neither.
func TestMeansTheSame(t *testing.T) {
	met := map[api.Errno]int{}
	for number := range 4000 {
		chance := rand.New(rand.NewSource(int64(number)))
		for range 6 {
			a, g := claimed(number), anyGraph(chance, 4)
			i := chance.Intn(a.Len())
			x, e := polar.Of(a, i, -1, api.MaxStates)
			if e != api.OK {
				continue
			}
			b, _ := arena.New(api.MaxArena)
			want, is := claimOf(a, i, g), claimOf(b, partOf(t, b, x), g)
			if want != is {
				t.Fatal(number, i, g, want, is, toldOf(claimed(number)), text(x, func(v int) string { return string(rune('A' + v)) }))
			}
			met[is]++
		}
	}
	if met[api.OK] < 3000 || met[api.ErrClash] < 3000 {
		t.Error(met)
	}
}

// claimOf claims, by a new solver, that a part is below a graph.
func claimOf(a *arena.Arena, i int, g api.Graph) api.Errno {
	k, _ := a.Graph(g)
	return solve.New(a).Claim(i, k)
}

// claimed: parts by chance, of which some claims are made, none of which clashes.
func claimed(number int) *arena.Arena {
	var claims [][2]int
	a, chance := bare(number)
	for range 3 + chance.Intn(9) {
		more := append(claims, [2]int{chance.Intn(a.Len()), chance.Intn(a.Len())})
		if _, e := claimedAll(number, more); e == api.OK {
			claims = more
		}
	}
	a, _ = claimedAll(number, claims)
	return a
}

func claimedAll(number int, claims [][2]int) (*arena.Arena, api.Errno) {
	a, _ := bare(number)
	s := solve.New(a)
	for _, c := range claims {
		if e := s.Claim(c[0], c[1]); e != api.OK {
			return nil, e
		}
	}
	return a, api.OK
}
