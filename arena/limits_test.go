package arena_test

import (
	"fmt"
	"slices"
	"testing"

	"azimuth/api"
	"azimuth/arena"
)

// full: an arena of as many parts as may be.
func full(t *testing.T) *arena.Arena {
	t.Helper()
	a, e := arena.New(api.MaxArena)
	if e != api.OK {
		t.Fatal(e)
	}
	for i := range api.MaxArena {
		var got int
		if i%2 == 0 {
			got, e = a.Var(i)
		} else {
			got, e = a.Head(api.Head{Kind: api.TFun, Kids: []int{i / 2, i - 1}})
		}
		if got != i || e != api.OK {
			t.Fatal(i, got, e)
		}
	}
	return a
}

// P12.1, P12.2: as many parts as may be, and not one more.
func TestMaxArena(t *testing.T) {
	a := full(t)
	const n = api.MaxArena
	if i, e := a.Var(0); i != 0 || e != api.ErrLimit {
		t.Error(i, e)
	}
	if i, e := a.Head(api.Head{Kind: api.TInt}); i != 0 || e != api.ErrLimit {
		t.Error(i, e)
	}
	if i, e := a.Graph(made(0, "i")); i != 0 || e != api.ErrLimit {
		t.Error(i, e)
	}
	if i, e := a.Head(api.Head{Kind: api.TFun, Kids: []int{0, n}}); i != 0 || e != api.ErrForm {
		t.Error(i, e)
	}
	if a.Len() != n || a.Level(n-1) != n-2 || a.Level(n-2) != n-2 || a.Level(n) != 0 || a.IsVar(n) || !a.IsVar(n-2) {
		t.Error(a.Len(), a.Level(n-1), a.Level(n-2))
	}
	if h, ok := a.At(n - 1); !ok || !slices.Equal(h.Kids, []int{n/2 - 1, n - 2}) {
		t.Error(h, ok)
	}
	// Bounds at the ends, and by numbers that a shorter number could take for others.
	numbers := []int{0, 1, 2, 255, 256, 257, 1<<15 - 1, 1 << 15, 1<<16 - 1, 1 << 16, 1<<16 + 1, n - 1<<16, n - 256, n - 2, n - 1}
	variables := []int{0, 2, 256, 258, 1 << 15, 1 << 16, 1<<16 + 2, n - 1<<16, n - 256, n - 2}
	for _, want := range []bool{true, false} {
		for _, v := range variables {
			for _, j := range numbers {
				if first, e := a.Bound(v, j, true); first != want || e != api.OK {
					t.Error(v, j, first, e)
				}
			}
		}
	}
	for _, v := range variables {
		if l := a.High(v); !slices.Equal(l, numbers) || len(a.Low(v)) > 0 {
			t.Error(v, l)
		}
	}
	at := 1
	for i, h := range a.Parts() {
		if i != at || h.Kind != api.TFun || h.Kids[1] != i-1 {
			t.Fatal(i, at, h)
		}
		at += 2
	}
	if at != n+1 {
		t.Error(at)
	}
}

// row: a graph of so many heads, none like another: each a record of the next one, the last one none.
func row(n int) api.Graph {
	var g api.Graph
	for i := range n - 1 {
		g.L = append(g.L, api.Head{Kind: api.TRecord, Names: []string{"a"}, Kids: []int{i + 1}})
	}
	g.L = append(g.L, api.Head{Kind: api.TNone})
	return g
}

// P12.1: graphs of as many heads as may be, and of one more.
func TestGreatGraphs(t *testing.T) {
	for _, n := range []int{api.MaxStates - 1, api.MaxStates} {
		g := row(n)
		for _, room := range []int{n, n + 1, 2 * n, 2*n - 1} {
			a, _ := arena.New(room + 1)
			a.Var(1)
			for at := 1; ; at += n {
				i, e := a.Graph(g)
				if at+n > room+1 {
					if i != 0 || e != api.ErrLimit || a.Len() != at {
						t.Error(n, room, i, e, a.Len())
					}
					break
				}
				if i != at || e != api.OK || a.Len() != at+n {
					t.Error(n, room, i, e, a.Len())
				}
				for k := range n - 1 {
					if h, ok := a.At(at + k); !ok || !equalHeads(h, headMade(fmt.Sprint("{ a:", at+k+1))) {
						t.Fatal(n, room, k, h, ok)
					}
				}
				if h, ok := a.At(at + n - 1); !ok || h.Kind != api.TNone {
					t.Error(h, ok)
				}
			}
		}
	}
	// A graph of many heads that are alike wants room for what its normal graph has.
	alike := api.Graph{L: make([]api.Head, api.MaxStates)}
	alike.L[0] = headMade("{ a:1 b:4095")
	x := pair(t, 4)
	x.Graph(alike)
	x.Graph(alike)
	x.Graph(alike)
	x.asAnew("alike heads")
	a, _ := arena.New(api.MaxArena)
	if i, e := a.Graph(row(api.MaxStates + 1)); i != 0 || e != api.ErrForm || a.Len() != 0 {
		t.Error(i, e, a.Len())
	}
}

// P12.1: heads of many names, more than a tree may have types.
func TestLongHeads(t *testing.T) {
	for _, n := range []int{1, 2, 4096, 4097, api.MaxNodes - 1, api.MaxNodes, api.MaxNodes + 1, 3 * api.MaxNodes} {
		for _, kind := range []int{api.TRecord, api.TVariant} {
			a, _ := arena.New(3)
			a.Var(1)
			a.Var(2)
			h := api.Head{Kind: kind, Names: make([]string, n), Kids: make([]int, n)}
			for k := range n {
				h.Names[k] = fmt.Sprintf("n%07d", k)
			}
			wrong := clonedHead(h)
			for _, at := range []int{0, n / 2, n - 1} {
				wrong.Kids[at] = 2
				if i, e := a.Head(wrong); i != 0 || e != api.ErrForm {
					t.Error(n, at, i, e)
				}
				wrong.Kids[at] = 0
				wrong.Names[at] = "z!"
				if i, e := a.Head(wrong); i != 0 || e != api.ErrForm {
					t.Error(n, at, i, e)
				}
				wrong.Names[at] = h.Names[at]
			}
			wrong.Kids = wrong.Kids[:n-1]
			if i, e := a.Head(wrong); i != 0 || e != api.ErrForm {
				t.Error(n, i, e)
			}
			if n > 1 {
				h.Kids[n-1] = 1
			}
			i, e := a.Head(h)
			if got, ok := a.At(i); i != 2 || e != api.OK || !ok || !equalHeads(got, h) || a.Level(i) != min(n, 2) {
				t.Error(n, i, e, ok, a.Level(i))
			}
		}
	}
}

// P12.1: a row of heads one in another as long as may be: levels are known at once.
func TestDeepHeads(t *testing.T) {
	a, _ := arena.New(api.MaxArena)
	a.Var(7)
	for i := 1; i < api.MaxArena; i++ {
		if got, e := a.Head(api.Head{Kind: api.TRecord, Names: []string{"a"}, Kids: []int{i - 1}}); got != i || e != api.OK || a.Level(i) != 7 {
			t.Fatal(i, got, e, a.Level(i))
		}
	}
}
