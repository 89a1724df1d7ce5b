package lift_test

import (
	"math/rand"
	"testing"

	"azimuth/api"
	"azimuth/arena"
	"azimuth/lift"
)

// anyHead: a head of few names, its kids some of so many parts.
func anyHead(chance *rand.Rand, n int) api.Head {
	h := api.Head{Kind: []int{
		api.TFun, api.TRecord, api.TVariant, api.TFun, api.TInt, api.TVariant, api.TRecord, api.TAny, api.TNone, api.TFun, api.TRecord, api.TDyn,
	}[chance.Intn(12)]}
	kids := 0
	switch h.Kind {
	case api.TFun:
		kids = 2
	case api.TRecord, api.TVariant:
		for _, name := range []string{"a", "b", "c"} {
			if chance.Intn(2) == 0 {
				h.Names = append(h.Names, name)
			}
		}
		kids = len(h.Names)
		h.Open = h.Kind == api.TVariant && chance.Intn(2) == 0
	}
	for range kids {
		h.Kids = append(h.Kids, chance.Intn(n))
	}
	return h
}

// scene: parts by chance, always the same for a number but for the levels of variables, which are so many from the lowest one on.
func scene(number, lowest, levels int) (*arena.Arena, *rand.Rand) {
	chance := rand.New(rand.NewSource(int64(number)))
	a, _ := arena.New(api.MaxArena)
	for range 2 + chance.Intn(5) {
		a.Var(lowest + chance.Intn(60)%levels)
	}
	for range chance.Intn(12) {
		switch n := a.Len(); chance.Intn(8) {
		case 0:
			a.Var(lowest + chance.Intn(60)%levels)
		case 1:
			a.Graph(api.Graph{L: []api.Head{{Kind: api.TRecord, Names: []string{"a", "b"}, Kids: []int{1, 0}}, anyHead(chance, 2)}})
		default:
			a.Head(anyHead(chance, n))
		}
	}
	return a, chance
}

// anyBounds: bounds of any sort, by chance.
func anyBounds(a *arena.Arena, chance *rand.Rand) {
	for range chance.Intn(14) {
		a.Bound(chance.Intn(a.Len()), chance.Intn(a.Len()), chance.Intn(2) == 0)
	}
}

// P14.1: of parts and bounds by chance fresh ones are as the words say, and so are Reach and Free, again and again.
func TestChance(t *testing.T) {
	news, vars := 0, 0
	for number := range 4000 {
		for _, levels := range []int{1, 2, 4} {
			a, chance := scene(number, 0, levels)
			anyBounds(a, chance)
			for range 3 {
				i, above, level := chance.Intn(a.Len()), chance.Intn(levels+1), chance.Intn(levels+1)
				n := a.Len()
				_, of := fresh(t, a, i, above, level)
				news += a.Len() - n
				vars += len(of)
				asked(t, a, chance.Intn(a.Len()), chance.Intn(levels+2)-1)
				anyBounds(a, chance)
			}
		}
	}
	if news < 8000 || vars < 5000 {
		t.Error(news, vars)
	}
}

// P14.1, R3: in arenas with little room a fresh one comes in just if it has room; else nothing changes.
func TestRoomByChance(t *testing.T) {
	met := map[api.Errno]int{}
	for number := range 3000 {
		for _, room := range []int{0, 1, 2, 3, 5, 9} {
			a, chance := scene(number, 0, 3)
			anyBounds(a, chance)
			b := again(a, room)
			for range 3 {
				i, above, level := chance.Intn(b.Len()), chance.Intn(3), chance.Intn(4)
				want := api.OK
				if asksAnew(toldOf(b), i, above) > b.Room() {
					want = api.ErrLimit
					refused(t, b, i, above, level, want)
				} else {
					fresh(t, b, i, above, level)
				}
				met[want]++
			}
		}
	}
	if met[api.OK] < 5000 || met[api.ErrLimit] < 5000 {
		t.Error(met)
	}
}

// again: the same parts and bounds in an arena with no more room than for so many others. (Of graphs alone a head may have a kid behind it; these go in as far as they are heads.)
func again(a *arena.Arena, room int) *arena.Arena {
	b, _ := arena.New(a.Len() + room)
	for i := range a.Len() {
		h, isHead := a.At(i)
		if !isHead {
			b.Var(a.Level(i))
			continue
		}
		if _, e := b.Head(h); e != api.OK {
			b.Head(api.Head{Kind: api.TInt})
		}
	}
	for i := range a.Len() {
		for _, k := range a.Low(i) {
			b.Bound(i, k, false)
		}
		for _, k := range a.High(i) {
			b.Bound(i, k, true)
		}
	}
	return b
}

// P14.1: what is fresh above a level comes to just as much as the old one, and has as many variables above that, if it is of a level above, too.
func TestReachOfFresh(t *testing.T) {
	news := 0
	for number := range 3000 {
		a, chance := scene(number, 0, 4)
		anyBounds(a, chance)
		i, above := chance.Intn(a.Len()), chance.Intn(4)
		k, _ := fresh(t, a, i, above, above+1)
		if n, m := lift.Free(a, i, above), lift.Free(a, k, above); n != m {
			t.Fatal(number, i, above, n, m)
		}
		if n, m := lift.Reach(a, i, above), lift.Reach(a, k, above); len(n) != len(m) {
			t.Fatal(number, i, above, n, m)
		}
		if k != i {
			news++
		}
	}
	if news < 800 {
		t.Error(news)
	}
}
