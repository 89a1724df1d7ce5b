package polar_test

import (
	"reflect"
	"slices"
	"strconv"
	"testing"

	"azimuth/api"
	"azimuth/polar"
)

// spared: a list with spare room behind it, in which something stands.
func spared[T any](l []T, spare T) []T {
	return append(append(make([]T, 0, len(l)+2), l...), spare, spare)[:len(l)]
}

func roomyHeads(l []api.Head) []api.Head {
	var heads []api.Head
	for _, h := range l {
		h.Names, h.Kids = spared(h.Names, "spare"), spared(h.Kids, 0)
		heads = append(heads, h)
	}
	return spared(heads, api.Head{Kind: -7, Names: []string{"spare"}})
}

// roomy: an automaton whose lists all have spare room.
func roomy(x polar.Auto) polar.Auto {
	var l []polar.State
	for _, s := range x.L {
		s.Heads, s.Vars = roomyHeads(s.Heads), spared(s.Vars, -8)
		l = append(l, s)
	}
	x.L = spared(l, polar.State{Vars: []int{-9}})
	return x
}

// all of a list, its spare room too, copied.
func all[T any](l []T) []T { return slices.Clone(l[:cap(l)]) }

func shownHeads(l []api.Head) []api.Head {
	l = all(l)
	for i, h := range l {
		l[i].Names, l[i].Kids = all(h.Names), all(h.Kids)
	}
	return l
}

// shown: a copy of an automaton with all of its spare room to be seen.
func shown(x polar.Auto) polar.Auto {
	x.L = all(x.L)
	for i, s := range x.L {
		x.L[i].Heads, x.L[i].Vars = shownHeads(s.Heads), all(s.Vars)
	}
	return x
}

func fill[T any](l []T, with T) {
	for i := range l[:cap(l)] {
		l[:cap(l)][i] = with
	}
}

// lists of an automaton: those of numbers, those of names, those of heads.
func lists(x polar.Auto) (numbers [][]int, names [][]string, heads [][]api.Head) {
	for _, s := range x.L {
		numbers, heads = append(numbers, s.Vars), append(heads, s.Heads)
		for _, h := range s.Heads {
			numbers, names = append(numbers, h.Kids), append(names, h.Names)
		}
	}
	return numbers, names, heads
}

// scribble writes over all of an automaton, its spare room too, and tells whether two of its lists share memory.
func scribble(x polar.Auto) (shares bool) {
	numbers, names, heads := lists(x)
	return filled(numbers, func(i int) int { return -i - 1 }, func(n int) int { return n }) ||
		filled(names, strconv.Itoa, func(s string) string { return s }) ||
		filled(heads, func(i int) api.Head { return api.Head{Kind: -i - 1} }, func(h api.Head) int { return h.Kind }) ||
		filled([][]polar.State{x.L}, func(int) polar.State { return polar.State{} }, func(s polar.State) int { return len(s.Heads) })
}

// filled fills each of some lists with something of its own: does one hold what another one was filled with?
func filled[T any, K comparable](l [][]T, with func(i int) T, key func(T) K) bool {
	for i := range l {
		fill(l[i], with(i))
	}
	for i := range l {
		for _, x := range l[i][:cap(l[i])] {
			if key(x) != key(with(i)) {
				return true
			}
		}
	}
	return false
}

// P15.2: the answers of Of and Closed are new memory, their lists share none, with one another or with anything; what becomes of them is nothing to the arena, nor to what is told next.
func TestNewMemory(t *testing.T) {
	for number := range 200 {
		a, chance := scene(number)
		was := toldOf(a)
		g := anyGraph(chance, 6)
		for i := range a.Len() {
			newAutos(t, func() (polar.Auto, api.Errno) { return polar.Of(a, i, 0, api.MaxStates) })
			if !asWas(was, toldOf(a)) {
				t.Fatal(number, i, "the arena changes with an automaton")
			}
			of(t, a, i, 0)
		}
		newAutos(t, func() (polar.Auto, api.Errno) { return polar.Closed(g) })
		closed(t, "a graph", g)
	}
}

// newAutos looks so at what is answered twice.
func newAutos(t *testing.T, answer func() (polar.Auto, api.Errno)) {
	t.Helper()
	one, e := answer()
	other, f := answer()
	was := shown(other)
	if scribble(one) {
		t.Fatal("lists of an automaton share memory")
	}
	if third, g := answer(); e != f || f != g || !reflect.DeepEqual(shown(other), was) || !equal(third, other) {
		t.Fatalf("an automaton shares memory: %s, %s", short(other), short(third))
	}
}

// P15.2: what Reach tells is new memory.
func TestReachMemory(t *testing.T) {
	x := grown()
	one, other := polar.Reach(x), polar.Reach(x)
	was := slices.Clone(other)
	fill(one, -5)
	if !slices.Equal(other, was) || !slices.Equal(polar.Reach(x), was) || !equal(x, grown()) {
		t.Error(other)
	}
}

// P15.2: automata that are handed in aren't changed, their spare room neither: such as may be, and such as may not.
func TestAutosUnchanged(t *testing.T) {
	var l []polar.Auto
	for _, change := range []func(x *polar.Auto){
		func(x *polar.Auto) {},
		func(x *polar.Auto) { x.Root = plus + 2 },
		func(x *polar.Auto) { x.Root = -1 },
		func(x *polar.Auto) { slices.Reverse(x.L[plus].Vars) },
		func(x *polar.Auto) { slices.Reverse(x.L[plus].Heads) },
		func(x *polar.Auto) { slices.Reverse(x.L[farRecord].Heads[0].Names) },
		func(x *polar.Auto) { slices.Reverse(x.L[plus].Heads[funAt].Kids) },
		func(x *polar.Auto) { slices.Reverse(x.L) },
	} {
		x := grown()
		change(&x)
		l = append(l, x, polar.Auto{L: x.L[:1]}, polar.Auto{L: x.L[:0]})
	}
	for n, x := range l {
		x = roomy(x)
		was := shown(x)
		e := polar.Check(x)
		if l := polar.Reach(x); (e == api.OK) != (len(l) > 0) {
			t.Error(n, e, l)
		}
		if !reflect.DeepEqual(shown(x), was) {
			t.Errorf("%d: what is handed in changes: %s", n, short(x))
		}
	}
}

// P15.2: graphs that are handed in aren't changed, nor kept.
func TestGraphsUnchanged(t *testing.T) {
	for _, x := range []struct {
		root int
		l    []string
		want string
	}{
		{0, []string{"i"}, "+i"},
		{2, []string{"i", "i", ">0,3", "{a:1,b:4", ">4,3"}, "+>1,2 -i +{a:3,b:4 +i +>5,2 ->4,6 -{a:1,b:5"},
		{0, []string{">1,2", "{b:1", "]c:0,in:2"}, "+>1,2 -{b:1 +]c:0,in:2"},
		{0, []string{"{b:0,a:0"}, ""},
		{5, []string{"i"}, ""},
	} {
		g := api.Graph{Root: x.root}
		for _, text := range x.l {
			g.L = append(g.L, headOf(text))
		}
		g.L = roomyHeads(g.L)
		was := shownHeads(g.L)
		auto, e := polar.Closed(g)
		if !reflect.DeepEqual(shownHeads(g.L), was) {
			t.Errorf("%v: Closed changes what is handed in", x.l)
		}
		for _, h := range g.L[:cap(g.L)] {
			fill(h.Names, "changed")
			fill(h.Kids, -9)
		}
		fill(g.L, api.Head{Kind: -9})
		if is := text(auto, strconv.Itoa); is != x.want || (e == api.OK) != (x.want != "") {
			t.Errorf("%v: %s, %d; it is %s", x.l, is, e, x.want)
		}
	}
}
