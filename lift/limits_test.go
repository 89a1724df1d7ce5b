package lift_test

import (
	"fmt"
	"slices"
	"testing"

	"azimuth/api"
	"azimuth/arena"
	"azimuth/lift"
)

// great: an arena of as many parts as may be, with so many variables of level 1.
func great(t *testing.T, vars int) *arena.Arena {
	t.Helper()
	a, e := arena.New(api.MaxArena)
	if e != api.OK {
		t.Fatal(e)
	}
	for range vars {
		a.Var(1)
	}
	return a
}

// made looks whether so many parts came in for a fresh one, and hands its number on.
func made(t *testing.T, a *arena.Arena, i, want int) int {
	t.Helper()
	n := a.Len()
	k, e := lift.Fresh(a, i, 0, 2)
	if e != api.OK || a.Len() != n+want || k < n || a.Level(k) != 2 {
		t.Fatalf("Fresh of %d: %d, %d, %d parts came in; it is %d", i, k, e, a.Len()-n, want)
	}
	return k
}

// P14.1: a long row of variables, each a bound of the next one, up and down, and round.
func TestLongRow(t *testing.T) {
	const n = 200000
	for _, round := range []bool{true, false} {
		a := great(t, n)
		for i := range n - 1 {
			a.Bound(i, i+1, i%2 == 0)
		}
		if round {
			a.Bound(n-1, 0, true)
		}
		k := made(t, a, 0, n)
		if lift.Free(a, k, 1) != n || lift.Free(a, 0, 0) != n || lift.Free(a, n-1, 0) == 1 != !round {
			t.Error(lift.Free(a, k, 1), lift.Free(a, n-1, 0))
		}
		l := lift.Reach(a, k, 0)
		if len(l) != n || !slices.IsSorted(l) || l[0] != n {
			t.Error(len(l))
		}
		if !round {
			made(t, a, n-1, 1)
		}
	}
}

// P14.1: one variable with many bounds, each a head of another one: they come in, in their order.
func TestManyBounds(t *testing.T) {
	const n = 50000
	a := great(t, n)
	for i := range n - 1 {
		h, _ := a.Head(api.Head{Kind: api.TRecord, Names: []string{"a"}, Kids: []int{n - 1 - i}})
		a.Bound(0, h, i%3 == 0)
	}
	k := made(t, a, 0, 2*n-1)
	for _, rows := range [][2][]int{{a.Low(0), a.Low(k)}, {a.High(0), a.High(k)}} {
		if len(rows[0]) != len(rows[1]) {
			t.Fatal(len(rows[0]), len(rows[1]))
		}
		for at := range rows[0] {
			it, _ := a.At(rows[0][at])
			that, _ := a.At(rows[1][at])
			// Fresh variables stand in the order of the old ones.
			if that.Kids[0]-it.Kids[0] != k {
				t.Fatal(at, it, that)
			}
		}
	}
}

// P14.1: heads one in another, as deep as there is room for twice; not for a third time.
func TestDeep(t *testing.T) {
	const n = 400000
	a := great(t, 1)
	i := 0
	for range n {
		i, _ = a.Head(api.Head{Kind: api.TRecord, Names: []string{"a"}, Kids: []int{i}})
	}
	k := made(t, a, i, n+1)
	if l := lift.Reach(a, k, 5); len(l) != n+1 || lift.Free(a, k, 1) != 1 || lift.Free(a, k, 2) != 0 {
		t.Error(len(l))
	}
	was := a.Len()
	for _, of := range []int{i, k} {
		if k, e := lift.Fresh(a, of, 0, 2); k != 0 || e != api.ErrLimit || a.Len() != was {
			t.Error(k, e, a.Len()-was)
		}
	}
}

// P14.1: a head of many names; by turns a variable, and a closed head.
func TestWide(t *testing.T) {
	const n = 100000
	a := great(t, 3)
	integer, _ := a.Head(api.Head{Kind: api.TInt})
	h := api.Head{Kind: api.TRecord}
	for i := range n {
		h.Names, h.Kids = append(h.Names, fmt.Sprintf("n%06d", i)), append(h.Kids, []int{integer, 1, 2}[i%3])
	}
	i, _ := a.Head(h)
	k := made(t, a, i, 3)
	is, _ := a.At(k)
	if !slices.Equal(is.Names, h.Names) || is.Kids[0] != integer || is.Kids[1] == 1 || is.Kids[2] == is.Kids[1] || is.Kids[n-1] != is.Kids[(n-1)%3] {
		t.Error(is.Kids[:4])
	}
	if l := lift.Reach(a, i, 0); !slices.Equal(l, []int{1, 2, integer, i}) {
		t.Error(l)
	}
}

// P14.1: heads that have one kid twice, again and again: each is gone through once, however many ways lead to it.
func TestKidsTwice(t *testing.T) {
	const n = 60
	a := great(t, 1)
	i := 0
	for range n {
		i, _ = a.Head(api.Head{Kind: api.TFun, Kids: []int{i, i}})
	}
	k := made(t, a, i, n+1)
	if l := lift.Reach(a, k, 0); len(l) != n+1 || lift.Free(a, i, 0) != 1 {
		t.Error(len(l))
	}
	// So of variables, each with the next one below and above it.
	a = great(t, n)
	for v := range n - 1 {
		a.Bound(v, v+1, true)
		a.Bound(v, v+1, false)
	}
	made(t, a, 0, n)
}

// A closed type isn't gone through for a fresh one: a variable bound by it may be used anew very often.
func TestGreatBound(t *testing.T) {
	g := api.Graph{}
	for i := range api.MaxStates - 1 {
		g.L = append(g.L, api.Head{Kind: api.TRecord, Names: []string{"a"}, Kids: []int{i + 1}})
	}
	g.L = append(g.L, api.Head{Kind: api.TInt})
	a := great(t, 1)
	i, _ := a.Graph(g)
	a.Bound(0, i, true)
	if n := testing.AllocsPerRun(10, func() { made(t, a, 0, 1) }); n > 100 {
		t.Error(n)
	}
	if l := lift.Reach(a, 0, 0); len(l) != api.MaxStates+1 {
		t.Error(len(l))
	}
}
