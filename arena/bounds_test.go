package arena_test

import (
	"slices"
	"testing"

	"azimuth/api"
	"azimuth/arena"
)

// bounded: an arena of three variables, numbers 0, 2, 4, and of heads 1, 3, 5.
func bounded(t *testing.T) *two {
	t.Helper()
	x := pair(t, 10)
	x.Var(1)
	x.head("i")
	x.Var(2)
	x.head("> 0 2")
	x.Var(0)
	x.head("{ a:3")
	return x
}

// P12.2: bounds that are told once are told for the first time, twice aren't; above and below by themselves.
func TestBound(t *testing.T) {
	for _, above := range []bool{true, false} {
		for _, i := range []int{0, 2, 4} {
			for j := range 6 {
				x := bounded(t)
				look := func(what string, above, want bool) {
					t.Helper()
					if first, e := x.Arena.Bound(i, j, above); first != want || e != api.OK {
						t.Errorf("%d by %d, above %v, %s: %v, %d", i, j, above, what, first, e)
					}
					x.words.Bound(i, j, above)
					x.asAnew(what)
				}
				look("once", above, true)
				look("twice", above, false)
				look("thrice", above, false)
				look("the other way", !above, true)
				look("the other way twice", !above, false)
				look("once more", above, false)
				high, low := x.High(i), x.Low(i)
				if !slices.Equal(high, []int{j}) || !slices.Equal(low, []int{j}) {
					t.Errorf("%d by %d: %v, %v", i, j, high, low)
				}
			}
		}
	}
}

// P12.2: a bound is its variable's alone: nothing is told of it at the part by which it is bound.
func TestBoundOfOneAlone(t *testing.T) {
	x := bounded(t)
	x.Bound(0, 2, true)
	if l := x.Low(2); len(l) > 0 {
		t.Error(l)
	}
	x.asAnew("above 0")
	// The same two, told of the other one, is told for the first time.
	x.Bound(2, 0, false)
	x.Bound(2, 0, true)
	x.Bound(0, 2, false)
	x.asAnew("each way")
	x.Bound(4, 4, true)
	x.Bound(4, 4, false)
	x.Bound(4, 4, true)
	x.asAnew("itself")
	if !slices.Equal(x.High(4), []int{4}) || !slices.Equal(x.Low(4), []int{4}) {
		t.Error(x.High(4), x.Low(4))
	}
}

// P12.2: Low and High tell bounds in the order in which they were told, which may be any.
func TestBoundsInOrder(t *testing.T) {
	for _, order := range [][]int{{0, 1, 2, 3, 4, 5}, {5, 4, 3, 2, 1, 0}, {3, 0, 5, 1, 4, 2}, {2, 5}, {4, 0, 1}} {
		x := bounded(t)
		for _, j := range order {
			x.Bound(2, j, true)
			x.Bound(2, order[len(order)-1-slices.Index(order, j)], false)
			// What is told again stands where it stood.
			x.Bound(2, order[0], true)
		}
		back := slices.Clone(order)
		slices.Reverse(back)
		if high, low := x.High(2), x.Low(2); !slices.Equal(high, order) || !slices.Equal(low, back) {
			t.Errorf("%v: %v, %v", order, high, low)
		}
		x.asAnew("in order")
	}
}

// P12.2: bounds of what is no variable, and by what is no part, are refused, and nothing is noted.
func TestBoundRefused(t *testing.T) {
	x := bounded(t)
	x.Bound(0, 1, true)
	refused := func(i, j int) {
		t.Helper()
		for _, above := range []bool{true, false} {
			if first, e := x.Arena.Bound(i, j, above); first || e != api.ErrArg {
				t.Errorf("%d by %d, above %v: %v, %d", i, j, above, first, e)
			}
		}
		x.asAnew("refused")
	}
	none := append(outside(6), 7, 9, 10, 11, -2)
	for j := range 6 {
		for _, head := range []int{1, 3, 5} {
			refused(head, j)
		}
		for _, i := range none {
			refused(i, j)
		}
	}
	for _, j := range none {
		for i := range 6 {
			refused(i, j)
		}
		refused(j, j)
	}
	// What was no part is one, when it has come; that it was refused isn't noted.
	x.Var(1)
	x.Bound(6, 6, true)
	x.Bound(0, 6, true)
	x.Bound(6, 5, false)
	x.asAnew("come")
}

// P12.2: bounds in a full arena: they take no room in it.
func TestBoundsInFull(t *testing.T) {
	x := pair(t, 3)
	x.Var(0)
	x.head("i")
	x.Var(1)
	for i := range 3 {
		for j := range 3 {
			for _, above := range []bool{true, false, true} {
				x.Bound(i, j, above)
			}
		}
	}
	x.asAnew("all bounds")
	x.Var(1)
	x.asAnew("full")
}

// P12.2: levels count for nothing in bounds, nor do bounds in levels.
func TestBoundsAndLevels(t *testing.T) {
	x := pair(t, 10)
	x.Var(0)
	x.Var(most)
	x.head("> 1 1")
	x.head("> 0 0")
	x.Bound(0, 1, true)
	x.Bound(0, 2, false)
	x.Bound(1, 0, true)
	x.Bound(1, 3, true)
	for i, level := range []int{0, most, most, 0} {
		if x.Level(i) != level {
			t.Errorf("%d: %d", i, x.Level(i))
		}
	}
	if i := x.head("{ a:0 b:3"); x.Level(i) != 0 {
		t.Error(x.Level(i))
	}
	x.asAnew("levels")
}

// P12.2: two arenas know nothing of one another.
func TestTwoArenas(t *testing.T) {
	x, y := bounded(t), bounded(t)
	x.Bound(0, 1, true)
	x.Bound(0, 2, false)
	x.head("[")
	y.asAnew("the other one")
	y.Bound(0, 2, true)
	y.Bound(0, 1, true)
	x.asAnew("the one")
	y.asAnew("the other one")
}

// P12.2: many bounds: of one variable by all parts, of all by one, and of each two of many, none twice, in order.
func TestManyBounds(t *testing.T) {
	const n = 600
	a, _ := arena.New(n)
	for range n {
		a.Var(0)
	}
	want := make([]int, n)
	for k := range n {
		want[k] = k * 7 % n
	}
	for again := range 2 {
		for i := range n {
			for k, j := range want {
				first, e := a.Bound(i, j, true)
				below, f := a.Bound(i, want[n-1-k], false)
				if first != (again == 0) || below != first || e != api.OK || f != api.OK {
					t.Fatal(again, i, j, first, below, e, f)
				}
			}
		}
	}
	back := slices.Clone(want)
	slices.Reverse(back)
	for i := range n {
		if !slices.Equal(a.High(i), want) || !slices.Equal(a.Low(i), back) {
			t.Fatal(i)
		}
	}
}
