package polar_test

import (
	"fmt"
	"slices"
	"testing"

	"azimuth/api"
	"azimuth/arena"
	"azimuth/polar"
)

// great: an arena of as many parts as may be, with so many variables of level 1.
func great(t *testing.T, vars int) *arena.Arena {
	t.Helper()
	a, e := arena.New(api.MaxArena)
	if e != api.OK {
		t.Fatal(e)
	}
	for range vars {
		a.Var(1)
	}
	return a
}

// wide: the number of a record of so many names, whose kids are told.
func wide(t *testing.T, a *arena.Arena, n int, kid func(i int) int) int {
	t.Helper()
	h := api.Head{Kind: api.TRecord}
	for i := range n {
		h.Names, h.Kids = append(h.Names, fmt.Sprintf("n%07d", i)), append(h.Kids, kid(i))
	}
	i, e := a.Head(h)
	if e != api.OK {
		t.Fatal(e)
	}
	return i
}

// states looks how many states an automaton has, and hands it on.
func states(t *testing.T, a *arena.Arena, i, most, want int) polar.Auto {
	t.Helper()
	x, e := polar.Of(a, i, 0, most)
	if e != api.OK || len(x.L) != want || polar.Check(x) != api.OK {
		t.Fatalf("Of %d: %d states, %d; it has %d", i, len(x.L), e, want)
	}
	return x
}

// P15.1: just as many states as most, and one more; with most at its ends.
func TestMost(t *testing.T) {
	for _, n := range []int{1, 2, 3, 255, 256, 257, 4094, 4095, 4096} {
		a := great(t, n)
		i := wide(t, a, n-1, func(i int) int { return i })
		x := states(t, a, i, n, n)
		for k := 1; k < n; k++ {
			if !slices.Equal(x.L[k].Vars, []int{k - 1}) || x.L[0].Heads[0].Kids[k-1] != k {
				t.Fatal(n, k, x.L[k])
			}
		}
		if n < api.MaxStates {
			states(t, a, i, n+1, n)
			states(t, a, i, api.MaxStates, n)
		}
		if n > 1 {
			tooMany(t, a, i, 0, n-1)
			tooMany(t, a, i, 0, 1)
		}
		// One name more.
		i = wide(t, a, n, func(i int) int { return i })
		tooMany(t, a, i, 0, n)
	}
	// That there are too many comes out at the last state.
	a := great(t, 1)
	i := 0
	for range api.MaxStates {
		i, _ = a.Head(api.Head{Kind: api.TRecord, Names: []string{"a"}, Kids: []int{i}})
	}
	tooMany(t, a, i, 0, api.MaxStates)
	states(t, a, i-1, api.MaxStates, api.MaxStates)
	tooMany(t, a, i-1, 0, api.MaxStates-1)
	states(t, a, 0, 1, 1)
}

// P15.1: variables in a long row, and round.
func TestLongRow(t *testing.T) {
	const n = 200000
	for _, round := range []bool{true, false} {
		a := great(t, n)
		for i := range n - 1 {
			a.Bound(i, i+1, false)
			a.Bound(n-1-i, n-2-i, true)
		}
		if round {
			a.Bound(n-1, 0, false)
			a.Bound(0, n-1, true)
		}
		x := states(t, a, n/2, 1, 1)
		want := n / 2
		if round {
			want = n
		}
		if l := x.L[0].Vars; len(l) != want || l[0] != n-want || l[len(l)-1] != n-1 {
			t.Error(round, len(l))
		}
		h, _ := a.Head(api.Head{Kind: api.TFun, Kids: []int{n / 2, n / 2}})
		x = states(t, a, h, 3, 3)
		if !round {
			want = n/2 + 1
		}
		if l := x.L[1].Vars; len(l) != want || l[0] != 0 || l[len(l)-1] != want-1 {
			t.Error(round, len(l))
		}
	}
}

// P15.1: a row of many heads of one kind.
func TestManyHeads(t *testing.T) {
	const n = 100000
	a := great(t, n)
	v, _ := a.Var(1)
	for i := range n {
		h, _ := a.Head(api.Head{Kind: api.TRecord, Names: []string{"a", "b"}, Kids: []int{i, n - 1 - i}})
		a.Bound(v, h, false)
	}
	x := states(t, a, v, 2, 2)
	if len(x.L[1].Vars) != n || !slices.Equal(x.L[0].Vars, []int{v}) || !slices.Equal(x.L[0].Heads[0].Kids, []int{1, 1}) {
		t.Error(len(x.L[1].Vars))
	}
}

// P15.1: very many names with one kid, whose row is long: it is made closed but once.
func TestManyNames(t *testing.T) {
	const n = 100000
	a := great(t, n)
	for i := range n - 1 {
		a.Bound(i, i+1, false)
	}
	x := states(t, a, wide(t, a, n, func(int) int { return 0 }), 2, 2)
	if l := x.L[0].Heads[0].Kids; len(l) != n || l[0] != 1 || l[n-1] != 1 || len(x.L[1].Vars) != n {
		t.Error(len(l), len(x.L[1].Vars))
	}
}

// P15.1: where states are too many, that is told as soon as they are, however many more kids there are, with whatever long rows.
func TestTooManySoon(t *testing.T) {
	const n = 100000
	a := great(t, n)
	for i := 10; i < n; i++ {
		a.Bound(i, max((i+1)%n, 10), false)
	}
	i := wide(t, a, n, func(i int) int { return i })
	for most := 1; most <= 10; most++ {
		tooMany(t, a, i, 0, most)
	}
	// Heads one in another, far deeper than there are states.
	a = great(t, 1)
	for range 500000 {
		i, _ = a.Head(api.Head{Kind: api.TVariant, Names: []string{"a"}, Kids: []int{a.Len() - 1}})
	}
	tooMany(t, a, i, 0, api.MaxStates)
}

// P15.1: rows of rows: with minus each row is any of those that have the first of some parts, so there are twice as many for each part more.
func TestDoubled(t *testing.T) {
	for n := 1; n <= 13; n++ {
		a := great(t, n+2)
		// What is above the i-th part: a and b lead from each to the next one, but from the first one to itself, a to the next one, too.
		for i := range n {
			for _, name := range []string{"a", "b"} {
				h, _ := a.Head(api.Head{Kind: api.TRecord, Names: []string{name}, Kids: []int{i + 1}})
				if i > 0 || name == "a" {
					a.Bound(i, h, true)
				}
				h, _ = a.Head(api.Head{Kind: api.TRecord, Names: []string{name}, Kids: []int{0}})
				if i == 0 {
					a.Bound(i, h, true)
				}
			}
		}
		i, _ := a.Head(api.Head{Kind: api.TFun, Kids: []int{0, n + 1}})
		// One for each of these rows, and two beside.
		if want := 1<<n + 2; want <= api.MaxStates {
			states(t, a, i, api.MaxStates, want)
			tooMany(t, a, i, 0, want-1)
		} else {
			tooMany(t, a, i, 0, api.MaxStates)
		}
	}
}

// P15.1: heads that have one kid twice, again and again: each is come to with both signs, however many ways lead to it.
func TestKidsTwice(t *testing.T) {
	const n = 60
	a := great(t, 1)
	i := 0
	for range n {
		i, _ = a.Head(api.Head{Kind: api.TFun, Kids: []int{i, i}})
	}
	states(t, a, i, 2*n+1, 2*n+1)
	tooMany(t, a, i, 0, 2*n)
}

// P15.1: parts of all numbers that may be are told apart.
func TestGreatNumbers(t *testing.T) {
	a := great(t, api.MaxArena-1)
	numbers := []int{0, 1, api.MaxArena - 2}
	for bit := 1; bit < 20; bit++ {
		numbers = append(numbers, 1<<bit, 1<<bit+1, 1<<bit-1)
	}
	slices.Sort(numbers)
	numbers = slices.Compact(numbers)
	i := wide(t, a, len(numbers), func(i int) int { return numbers[i] })
	if i != api.MaxArena-1 {
		t.Fatal(i)
	}
	x := states(t, a, i, len(numbers)+1, len(numbers)+1)
	for k, n := range numbers {
		if !slices.Equal(x.L[k+1].Vars, []int{n}) {
			t.Error(k, n, x.L[k+1])
		}
	}
}

// P15.1: graphs of as many heads as may be, in an arena, with one sign and with both.
func TestGreatGraphs(t *testing.T) {
	for _, n := range []int{2048, 2049, api.MaxStates} {
		var rows, functions api.Graph
		for i := range n {
			rows.L = append(rows.L, api.Head{Kind: api.TRecord, Names: []string{"a"}, Kids: []int{i + 1}})
			functions.L = append(functions.L, api.Head{Kind: api.TFun, Kids: []int{i + 1, i + 1}})
		}
		rows.L[n-1], functions.L[n-1] = api.Head{Kind: api.TInt}, api.Head{Kind: api.TStr}
		a := great(t, 1)
		i, _ := a.Graph(rows)
		states(t, a, i, n, n)
		tooMany(t, a, i, 0, n-1)
		i, _ = a.Graph(functions)
		if n == 2048 {
			states(t, a, i, 2*n-1, 2*n-1)
			tooMany(t, a, i, 0, 2*n-2)
		} else {
			tooMany(t, a, i, 0, api.MaxStates)
		}
	}
}
