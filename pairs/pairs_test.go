package pairs_test

import (
	"math/rand"
	"reflect"
	"slices"
	"testing"

	"azimuth/api"
	"azimuth/pairs"
)

// Heads of all types stand in one list, each type made normal; a type that may not be has no root, and no heads.
func TestOf(t *testing.T) {
	list := api.Graph{L: []api.Head{{Kind: api.TStr}, {Kind: api.TInt}, {Kind: api.TRecord, Names: []string{"a", "b"}, Kids: []int{1, 2}}}, Root: 2}
	wrong := api.Graph{L: []api.Head{{Kind: api.TFun}}}
	types := pairs.Of(list, wrong, api.Graph{L: []api.Head{{Kind: api.TDyn}}}, list)
	want := []api.Head{
		{Kind: api.TRecord, Names: []string{"a", "b"}, Kids: []int{1, 0}}, {Kind: api.TInt}, {Kind: api.TDyn},
		{Kind: api.TRecord, Names: []string{"a", "b"}, Kids: []int{4, 3}}, {Kind: api.TInt},
	}
	for i, h := range types.Heads {
		if i >= len(want) || h.Kind != want[i].Kind || !slices.Equal(h.Names, want[i].Names) || !slices.Equal(h.Kids, want[i].Kids) {
			t.Errorf("head %d: %v", i, h)
		}
	}
	for i, want := range []int{0, -1, 2, 3} {
		if root, may := types.Root(i); may != (want >= 0) || root != max(want, 0) {
			t.Errorf("root %d: %d, %v", i, root, may)
		}
	}
	if list.Root != 2 || list.L[2].Kids[0] != 1 || len(types.Heads) != len(want) {
		t.Error(list, types)
	}
}

// named: a record of some of a few names, all short or all long, its kids one of so many.
func named(chance *rand.Rand, kids int) api.Head {
	h := api.Head{Kind: api.TRecord}
	of := []int{1, 2, 10, 40}[chance.Intn(4)]
	for i := range chance.Intn(60) {
		if chance.Intn(of) == 0 {
			h.Names, h.Kids = append(h.Names, string(rune('a'+i/8))+string(rune('a'+i%8))), append(h.Kids, chance.Intn(kids))
		}
	}
	return h
}

// Of names that two heads share both kids are asked, in order, till one isn't so.
func TestShared(t *testing.T) {
	for i := range 3000 {
		chance := rand.New(rand.NewSource(int64(i)))
		it, that := named(chance, 10), named(chance, 10)
		var want [][2]int
		for k, name := range it.Names {
			if other := slices.Index(that.Names, name); other >= 0 {
				want = append(want, [2]int{it.Kids[k], that.Kids[other]})
			}
		}
		for stop := range len(want) + 1 {
			var asked [][2]int
			names, all := pairs.Shared(&it, &that, func(i, j int) bool {
				asked = append(asked, [2]int{i, j})
				return len(asked) <= stop
			})
			if stop == len(want) && (!all || names != len(want) || !reflect.DeepEqual(asked, want)) {
				t.Errorf("%v, %v: %d, %v, %v", it, that, names, all, asked)
			}
			if stop < len(want) && (all || names != 0 || !reflect.DeepEqual(asked, want[:stop+1])) {
				t.Errorf("%v, %v: not so of %d: %d, %v, %v", it, that, stop, names, all, asked)
			}
		}
	}
}

// What the other head alone has must mean any.
func TestAnys(t *testing.T) {
	met := map[bool]int{}
	for i := range 3000 {
		chance := rand.New(rand.NewSource(int64(i)))
		types := pairs.Of(api.Graph{L: []api.Head{{Kind: api.TAny}}}, api.Graph{L: []api.Head{{Kind: api.TInt}}})
		it, that := named(chance, 2), named(chance, 2)
		want := true
		for k, name := range that.Names {
			if chance.Intn(8) > 0 {
				that.Kids[k] = 0
			}
			want = want && (slices.Contains(it.Names, name) || that.Kids[k] == 0)
		}
		if types.Anys(&it, &that) != want {
			t.Errorf("%v, %v: not %v", it, that, want)
		}
		met[want]++
	}
	if met[true] < 300 || met[false] < 300 {
		t.Error(met)
	}
}

// The other head's kids are told, in order, of names that the one hasn't; as long as they are asked for.
func TestOthers(t *testing.T) {
	for i := range 3000 {
		chance := rand.New(rand.NewSource(int64(i)))
		it, that := named(chance, 10), named(chance, 10)
		var want []int
		for k, name := range that.Names {
			if !slices.Contains(it.Names, name) {
				want = append(want, that.Kids[k])
			}
		}
		for stop := range len(want) + 1 {
			var got []int
			for kid := range pairs.Others(&it, &that) {
				got = append(got, kid)
				if len(got) == stop {
					break
				}
			}
			if stop == 0 && !slices.Equal(got, want) || stop > 0 && !slices.Equal(got, want[:stop]) {
				t.Errorf("%v, %v, till %d: %v", it, that, stop, got)
			}
		}
	}
}

// A list has the pairs that were put to it, and no others, whether they wait or were told.
func TestHas(t *testing.T) {
	for i := range 200 {
		chance := rand.New(rand.NewSource(int64(i)))
		list, put := pairs.New(), map[[2]int]bool{}
		look := func() {
			for i := range 24 {
				for j := range 24 {
					if list.Has(i, j) != put[[2]int{i, j}] {
						t.Errorf("%d, %d: %v", i, j, list.Has(i, j))
					}
				}
			}
		}
		look()
		for range 3 {
			for range chance.Intn(60) {
				i, j := chance.Intn(24), chance.Intn(24)
				list.Put(i, j)
				put[[2]int{i, j}] = true
			}
			look()
			left := chance.Intn(20)
			list.All(func(int, int) bool { left--; return left > 0 })
			look()
		}
	}
}

// Each pair is told once, however often it is put, those too that are put while others are looked at.
func TestAll(t *testing.T) {
	if !pairs.New().All(func(int, int) bool { return false }) {
		t.Error("something speaks against a list without pairs")
	}
	for n := 1; n < 40; n++ {
		list := pairs.New()
		list.Put(n/2, n/3)
		met := map[[2]int]int{}
		all := list.All(func(i, j int) bool {
			met[[2]int{i, j}]++
			for _, next := range []int{i, (i + 1) % n, (i + n - 1) % n} {
				list.Put(next, j)
				list.Put(i, (j+7)%n)
				list.Put(next, (j+1)%n)
			}
			return true
		})
		for pair, times := range met {
			if times != 1 || pair[0] < 0 || pair[0] >= n || pair[1] < 0 || pair[1] >= n {
				t.Errorf("%d: %v, %d times", n, pair, times)
			}
		}
		if !all || len(met) != n*n {
			t.Errorf("%d: %v, %d pairs", n, all, len(met))
		}
	}
}

// What speaks against one pair ends it, wherever it is met; what waits is told when it is asked again.
func TestAllStops(t *testing.T) {
	for at := range 100 {
		list := pairs.New()
		for i := range 10 {
			for j := range 10 {
				list.Put(i*3, j*5)
			}
		}
		times := 0
		if list.All(func(i, j int) bool {
			times++
			return times <= at
		}) || times != at+1 {
			t.Errorf("ended behind %d pairs, not %d", times, at+1)
		}
		if !list.All(func(int, int) bool { times++; return true }) || times != 100 {
			t.Errorf("%d pairs in all", times)
		}
	}
}
