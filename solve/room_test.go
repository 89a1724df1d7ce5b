package solve_test

import (
	"testing"

	"azimuth/api"
	"azimuth/arena"
	"azimuth/solve"
)

// roomy is all that an arena tells, with how many parts more go in.
type roomy struct {
	parts []told
	room  int
}

func roomyOf(a *arena.Arena) roomy { return roomy{toldOf(a), a.Room()} }

// asWas looks whether an arena tells what it told.
func (r roomy) asWas(t *testing.T, a *arena.Arena, what ...any) {
	t.Helper()
	if n := a.Len(); n != len(r.parts) || a.Room() != r.room {
		t.Fatalf("%v: %d parts, room for %d; there were %d, and room for %d", what, n, a.Room(), len(r.parts), r.room)
	}
	if !equal(r.parts, toldOf(a)) {
		t.Fatalf("%v: parts or bounds changed", what)
	}
	heads := 0
	for i, h := range a.Parts() {
		if r.parts[i].isVar || !sameHeads(h, r.parts[i].head) {
			t.Fatalf("%v: Parts tells %d, %v", what, i, h)
		}
		heads++
	}
	for _, x := range r.parts {
		if !x.isVar {
			heads--
		}
	}
	if heads != 0 {
		t.Fatalf("%v: Parts tells %d heads too many", what, heads)
	}
}

// fill looks whether just so many parts more go in.
func fill(t *testing.T, a *arena.Arena, room int, what ...any) {
	t.Helper()
	n := a.Len()
	for i := range room {
		if k, e := a.Var(0); k != n+i || e != api.OK {
			t.Fatalf("%v: part %d of %d that should go in: %d, %d", what, i, room, k, e)
		}
	}
	if k, e := a.Var(0); k != 0 || e != api.ErrLimit {
		t.Fatalf("%v: one more than the %d that should go in: %d, %d", what, room, k, e)
	}
}

// lesserRooms claims a row in arenas with room for as many parts as it asks for in a great one, and with every lesser amount: build makes the arena, always alike, with room for so many. It answers how many parts were asked for.
func lesserRooms(t *testing.T, build func(room int) *arena.Arena, claims []claim, what ...any) int {
	t.Helper()
	a := build(100000)
	n := a.Len()
	s := solve.New(a)
	behind := make([]int, len(claims)) // how many parts came in till then
	for k, x := range claims {
		if e := s.Claim(x.below, x.above); e != api.OK {
			t.Fatalf("%v: %v: %d", what, x, e)
		}
		behind[k] = a.Len() - n
	}
	whole, asks := toldOf(a), a.Len()-n
	for room := range asks + 1 {
		b := build(room)
		lesserRoom(t, b, room, claims, behind, what...)
		if room == asks && !equal(whole, toldOf(b)) {
			t.Fatalf("%v: with just as much room as is asked for the arena is another one", what)
		}
	}
	return asks
}

// lesserRoom claims a row in an arena with room for so many, of which it is known how many parts come in till the end of each claim. From the first claim on for which there is no room nothing is changed.
func lesserRoom(t *testing.T, a *arena.Arena, room int, claims []claim, behind []int, what ...any) {
	t.Helper()
	s := solve.New(a)
	taken := 0
	for k, x := range claims {
		was := roomyOf(a)
		e := s.Claim(x.below, x.above)
		if behind[k] <= room {
			taken = behind[k]
			if e != api.OK || a.Room() != room-taken {
				t.Fatalf("%v, room for %d: %v asks for %d: %d, and room for %d is left", what, room, x, taken, e, a.Room())
			}
			continue
		}
		if e != api.ErrLimit {
			t.Fatalf("%v, room for %d: %v asks for %d: %d", what, room, x, behind[k], e)
		}
		was.asWas(t, a, what, room, x)
	}
	fill(t, a, room-taken, what, room)
}

// R3: behind a claim for which there is no room the arena is as it was: claims that want several parts, with every lesser amount of room.
func TestClaimWithLessRoom(t *testing.T) {
	for _, x := range []struct {
		claims [][2]string
		asks   int
	}{
		{[][2]string{{"A2 -> B2", "V0"}}, 3},
		{[][2]string{{"V0", "A2 -> B2"}}, 3},
		{[][2]string{{"V0", "{a: A2, b: B3, c: {d: C1, e: A2 -> A2}}"}}, 7},
		{[][2]string{{"[#a {b: A2} | #c (B1 -> C2) | ..]", "V0"}}, 6},
		{[][2]string{{"{a: A3}", "V2"}, {"V2", "V1"}, {"V1", "V0"}}, 6},
		{[][2]string{{"V0", "W1"}, {"W1", "{a: A3, b: B2}"}, {"int", "A3"}}, 6},
		{[][2]string{{"[..]", "[#a V | ..]"}, {"V", "W0"}, {"{a: A1}", "U0"}}, 3},
		{[][2]string{{"U0", "[#a {b: A2} | ..]"}, {"[..]", "V0"}, {"V0", "[#b B1 | ..]"}}, 6},
		{[][2]string{{"{b: A1}", "A1"}, {"{a: A1}", "V0"}, {"V0", "{a: {b: B2}}"}}, 6},
		{[][2]string{{"A2", "B2"}, {"B2", "{a: C2}"}, {"C2", "A2"}, {"V1", "A2"}, {"W0", "V1"}}, 4},
		{[][2]string{{"type A = {a: A, b: int}; A", "V0"}, {"V0", "{a: A3}"}, {"V0", "{a: {a: A3}}"}}, 4},
	} {
		parts := func(w *world) *world {
			for _, c := range x.claims {
				w.part(c[0])
				w.part(c[1])
			}
			w.Bound(w.part("Z9"), w.part("int"), true)
			return w
		}
		n := parts(newWorld(t, 100)).Len()
		build := func(room int) *world { return parts(newWorld(t, n+room)) }
		w := build(0)
		var claims []claim
		for _, c := range x.claims {
			claims = append(claims, claim{w.part(c[0]), w.part(c[1])})
		}
		if asks := lesserRooms(t, func(room int) *arena.Arena { return build(room).Arena }, claims, x.claims); asks != x.asks {
			t.Errorf("%v asks for %d", x.claims, asks)
		}
	}
}

// R3: the same of claims by chance that don't clash.
func TestClaimWithLessRoomByChance(t *testing.T) {
	asked := map[int]int{}
	for number := range 1500 {
		for _, levels := range []int{2, 3, 6} {
			a, chance := scene(number, levels, -1)
			claims := fewClaims(number, levels, anyClaims(chance, a.Len()))
			asks := lesserRooms(t, func(room int) *arena.Arena {
				a, _ := scene(number, levels, room)
				return a
			}, claims, "scene", number, levels, claims)
			asked[min(asks, 5)]++
		}
	}
	if asked[0] < 300 || asked[1] < 20 || asked[2] < 100 || asked[3] < 100 || asked[5] < 500 {
		t.Error(asked)
	}
}

// R3: a row of claims, the last of which clashes: with every lesser amount of room than is asked for ahead of it the arena is left as it was, and with no amount it is filled behind the clash, but by an any.
func TestClashWithLessRoom(t *testing.T) {
	met := map[api.Errno]int{}
	for number := range 1500 {
		for _, levels := range []int{2, 4} {
			a, chance := scene(number, levels, -1)
			n := a.Len()
			all := anyClaims(chance, n)
			few := fewClaims(number, levels, all)
			if len(few) == len(all) {
				continue
			}
			a, _, _ = claimedOf(number, levels, few)
			asks := a.Len() - n
			for room := range asks + 3 {
				a, _ := scene(number, levels, room)
				s := solve.New(a)
				e := api.OK
				for _, x := range few {
					e = s.Claim(x.below, x.above)
				}
				was := roomyOf(a)
				clash := s.Claim(all[len(few)].below, all[len(few)].above)
				met[clash]++
				if e != api.OK && clash != e || e == api.OK && clash != api.ErrClash || (e == api.OK) != (room >= asks) {
					t.Fatalf("scene %d, room for %d of %d: %d, then %d", number, room, asks, e, clash)
				}
				i, _, _ := s.Clash()
				if h, _ := a.At(i); i == len(was.parts) && h.Kind == api.TAny {
					continue
				}
				was.asWas(t, a, "scene", number, room)
			}
		}
	}
	if met[api.ErrClash] < 1000 || met[api.ErrLimit] < 1000 {
		t.Error(met)
	}
}

// R3: behind a part that isn't raised, for want of room, the arena is as it was, with every lesser amount; with just as much as is asked for it is raised as with more.
func TestRaiseWithLessRoom(t *testing.T) {
	asked := map[int]int{}
	for number := range 1500 {
		for _, levels := range []int{2, 3, 6} {
			build := func(room int) (*arena.Arena, int, int, bool) {
				a, chance := scene(number, levels, room)
				n := a.Len()
				for range 1 + chance.Intn(12) {
					a.Bound(chance.Intn(n), chance.Intn(n), chance.Intn(2) == 0)
				}
				return a, chance.Intn(n), chance.Intn(levels), chance.Intn(2) == 0
			}
			a, i, level, up := build(-1)
			n := a.Len()
			by := raise(t, a, i, level, up)
			asks := a.Len() - n
			asked[min(asks, 5)]++
			for room := range asks + 1 {
				b, i, level, up := build(room)
				was := roomyOf(b)
				k, e := solve.Raise(b, i, level, up)
				if room == asks {
					if k != by || e != api.OK || b.Room() != 0 || !equal(toldOf(a), toldOf(b)) {
						t.Fatalf("scene %d: with just as much room as is asked for: %d, %d", number, k, e)
					}
					continue
				}
				if k != 0 || e != api.ErrLimit {
					t.Fatalf("scene %d, room for %d of %d: %d, %d", number, room, asks, k, e)
				}
				was.asWas(t, b, "scene", number, room)
				fill(t, b, room, "scene", number)
			}
		}
	}
	if asked[0] < 1000 || asked[1] < 200 || asked[2] < 100 || asked[3] < 100 || asked[5] < 100 {
		t.Error(asked)
	}
}

// R3: what found no room goes in elsewhere: the room that is left serves other parts, and another solver.
func TestRoomThatIsLeft(t *testing.T) {
	w := newWorld(t, 7)
	f, v, u := w.part("A2 -> B2"), w.part("V0"), w.part("{c: A2}")
	if e := w.solver.Claim(f, v); e != api.ErrLimit || w.Len() != 5 {
		t.Fatal(e, w.Len())
	}
	s := solve.New(w.Arena)
	if e := s.Claim(f, v); e != api.ErrLimit || w.Len() != 5 {
		t.Error(e, w.Len())
	}
	if i, e := solve.Raise(w.Arena, f, 1, true); i != 0 || e != api.ErrLimit || w.Len() != 5 {
		t.Error(i, e, w.Len())
	}
	s = solve.New(w.Arena)
	if e := s.Claim(u, v); e != api.OK || w.Len() != 7 {
		t.Error(e, w.Len())
	}
	if l := w.Low(v); len(l) != 1 || w.Level(l[0]) != 0 {
		t.Error(l)
	}
}
