package solve_test

import (
	"math/rand"
	"slices"
	"testing"

	"azimuth/api"
	"azimuth/arena"
	"azimuth/solve"
)

// anyHead: a head of few names, its kids some of so many parts.
func anyHead(chance *rand.Rand, n int) api.Head {
	h := api.Head{Kind: []int{
		api.TFun, api.TRecord, api.TVariant, api.TFun, api.TInt, api.TVariant, api.TRecord, api.TAny, api.TNone, api.TFun, api.TRecord, api.TDyn, api.TVariant,
	}[chance.Intn(13)]}
	kids := 0
	switch h.Kind {
	case api.TFun:
		kids = 2
	case api.TRecord, api.TVariant:
		for _, name := range []string{"a", "b"} {
			if chance.Intn(2) == 0 {
				h.Names = append(h.Names, name)
			}
		}
		kids = len(h.Names)
		h.Open = h.Kind == api.TVariant && chance.Intn(2) == 0
	}
	for range kids {
		h.Kids = append(h.Kids, chance.Intn(n))
	}
	return h
}

// likeHead: a head of a kind, that clashes with others of it but seldom.
func likeHead(chance *rand.Rand, kind, n int) api.Head {
	kids := []int{chance.Intn(n), chance.Intn(n)}
	switch {
	case chance.Intn(8) == 0:
		return api.Head{Kind: []int{api.TInt, api.TStr, api.TAny, api.TNone}[chance.Intn(4)]}
	case kind == api.TRecord:
		return api.Head{Kind: kind, Names: []string{"a", "b"}, Kids: kids}
	case kind == api.TVariant:
		return api.Head{Kind: kind, Names: []string{[]string{"a", "b"}[chance.Intn(2)], "c"}, Kids: kids, Open: true}
	}
	return api.Head{Kind: api.TFun, Kids: kids}
}

// scene: parts by chance, always the same for a number but for the levels of variables, of which there are so many.
func scene(number, levels, room int) (*arena.Arena, *rand.Rand) {
	chance := by(number)
	a, _ := arena.New(api.MaxArena)
	kind := []int{api.TFun, api.TRecord, api.TVariant, api.TInt, api.TInt}[chance.Intn(5)]
	for range 2 + chance.Intn(7) {
		a.Var(chance.Intn(60) % levels)
	}
	for range chance.Intn(13) {
		if kind == api.TInt {
			a.Head(anyHead(chance, a.Len()))
		} else {
			a.Head(likeHead(chance, kind, a.Len()))
		}
	}
	if room < 0 {
		return a, chance
	}
	// The same in an arena with no more room than so much.
	b, _ := arena.New(a.Len() + room)
	for i := range a.Len() {
		if h, isHead := a.At(i); isHead {
			b.Head(h)
		} else {
			b.Var(a.Level(i))
		}
	}
	return b, chance
}

// anyClaims: claims by chance of so many parts, some of them more often than others.
func anyClaims(chance *rand.Rand, parts int) (l []claim) {
	often := chance.Intn(parts)
	for range 1 + chance.Intn(20) {
		x := claim{chance.Intn(parts), chance.Intn(parts)}
		switch chance.Intn(6) {
		case 0:
			x.below = often
		case 1:
			x.above = often
		}
		l = append(l, x)
	}
	return l
}

// P13.1, P13.3: claims by chance are answered as the words say, at all levels alike, and all that is told behind each is as it should be.
func TestChance(t *testing.T) {
	met := map[api.Errno]int{}
	raised := 0
	for number := range 3000 {
		for _, levels := range []int{1, 2, 3, 6} {
			a, chance := scene(number, levels, -1)
			w := worldOf(t, a)
			n := a.Len()
			for _, x := range anyClaims(chance, n) {
				e := w.claimed(x.below, x.above)
				met[e]++
				if e != api.OK && chance.Intn(4) > 0 {
					break
				}
			}
			raised += a.Len() - n
		}
	}
	if met[api.OK] < 10000 || met[api.ErrClash] < 5000 || raised < 10000 {
		t.Error(met, raised)
	}
}

// claimedOf: a scene in which claims were made that don't clash, and their solver; false if they do.
func claimedOf(number, levels int, claims []claim) (*arena.Arena, *solve.Solver, bool) {
	a, _ := scene(number, levels, -1)
	s := solve.New(a)
	for _, x := range claims {
		if s.Claim(x.below, x.above) != api.OK {
			return nil, nil, false
		}
	}
	return a, s, true
}

// fewClaims: the first ones, by chance, that don't clash.
func fewClaims(number, levels int, claims []claim) []claim {
	a, _ := scene(number, levels, -1)
	s := solve.New(a)
	for k, x := range claims {
		if s.Claim(x.below, x.above) != api.OK {
			return claims[:k]
		}
	}
	return claims
}

// P13.1: the bounds that are noted say all: by them alone another solver answers what the words say of all claims.
func TestBoundsSayAll(t *testing.T) {
	met := map[bool]int{}
	for number := range 6000 {
		for _, levels := range []int{1, 2, 5} {
			a, chance := scene(number, levels, -1)
			n := a.Len()
			claims := fewClaims(number, levels, anyClaims(chance, n))
			a, _, _ = claimedOf(number, levels, claims)
			more := []claim{{chance.Intn(n), chance.Intn(n)}, {chance.Intn(n), chance.Intn(n)}}
			s := solve.New(a)
			for k, x := range more {
				clash := len(follows(a, append(slices.Clone(claims), more[:k+1]...)).clashes) > 0
				if e := s.Claim(x.below, x.above); (e == api.ErrClash) != clash {
					t.Fatalf("scene %d, %d levels, %v, then %v: %d", number, levels, claims, more[:k+1], e)
				}
				met[clash]++
			}
		}
	}
	if met[true] < 3000 || met[false] < 3000 {
		t.Error(met)
	}
}

// P13.3: the same claims in another order, at other levels, to the same parts: one of them clashes, or none.
func TestOrderByChance(t *testing.T) {
	met := map[api.Errno]int{}
	for number := range 1500 {
		a, chance := scene(number, 1, -1)
		claims := anyClaims(chance, a.Len())
		want := api.OK
		if len(follows(a, claims).clashes) > 0 {
			want = api.ErrClash
		}
		for _, levels := range []int{1, 2, 3, 5, 13} {
			a, _ := scene(number, levels, -1)
			s := solve.New(a)
			e := api.OK
			for _, x := range claims {
				e = s.Claim(x.below, x.above)
			}
			if e != want {
				t.Fatalf("scene %d, %d levels, %v: %d; it is %d", number, levels, claims, e, want)
			}
			chance.Shuffle(len(claims), func(i, j int) { claims[i], claims[j] = claims[j], claims[i] })
		}
		met[want]++
	}
	if met[api.OK] < 200 || met[api.ErrClash] < 200 {
		t.Error(met)
	}
}

// P13.1: in arenas with little room a claim is answered as in one with more, or with ErrLimit, and from then on so; a clash is told ahead of that. Where it is refused parts and bounds are as they were.
func TestRoomByChance(t *testing.T) {
	met := map[api.Errno]int{}
	for number := range 2500 {
		for _, levels := range []int{2, 4} {
			for _, room := range []int{0, 1, 2, 3, 5, 10} {
				a, chance := scene(number, levels, room)
				n := a.Len()
				s := solve.New(a)
				var made []claim
				last := api.OK
				for _, x := range anyClaims(chance, n) {
					was := roomyOf(a)
					e := s.Claim(x.below, x.above)
					met[e]++
					if last == api.OK {
						last = e
						clash := len(follows(a, append(slices.Clone(made), x)).clashes) > 0
						if clash != (e == api.ErrClash) {
							t.Fatalf("scene %d, room for %d, %v, then %v: %d", number, room, made, x, e)
						}
						if e == api.OK {
							made = append(made, x)
						}
					}
					_, _, clash := s.Clash()
					if e != last || s.Claims() != len(made) || clash != (e == api.ErrClash) {
						t.Fatalf("scene %d, behind %d: %d, %d claims, not %d", number, last, e, s.Claims(), len(made))
					}
					if e == api.ErrLimit {
						was.asWas(t, a, "scene", number, room)
					} else if is := toldOf(a); e != api.OK && !equal(was.parts, is[:len(was.parts)]) {
						t.Fatalf("scene %d: parts or bounds changed behind %d", number, e)
					}
				}
			}
		}
	}
	if met[api.OK] < 10000 || met[api.ErrClash] < 5000 || met[api.ErrLimit] < 5000 {
		t.Error(met)
	}
}

// P13.2: what is raised by chance is as it should be.
func TestRaiseByChance(t *testing.T) {
	raised := 0
	for number := range 3000 {
		for _, levels := range []int{2, 3, 6} {
			a, chance := scene(number, levels, -1)
			n := a.Len()
			// Bounds of any sort, and such as are noted.
			s := solve.New(a)
			for _, x := range anyClaims(chance, n) {
				if chance.Intn(2) == 0 {
					a.Bound(x.below, x.above, chance.Intn(2) == 0)
				} else {
					s.Claim(x.below, x.above)
				}
			}
			for range 3 {
				n := a.Len()
				raise(t, a, chance.Intn(n), chance.Intn(levels), chance.Intn(2) == 0)
				if a.Len() > n {
					raised++
				}
			}
		}
	}
	if raised < 3000 {
		t.Error(raised)
	}
}

// P13.2: what is claimed above a part that was raised up clashes just if it would above the one, whatever is claimed below that, ahead and behind; raised down the other way round.
func TestRaisedStandsFor(t *testing.T) {
	met := map[api.Errno]int{}
	for number := range 4000 {
		for _, levels := range []int{2, 4} {
			a, chance := scene(number, levels, -1)
			n := a.Len()
			claims := fewClaims(number, levels, anyClaims(chance, n))
			i, level, up := chance.Intn(n), chance.Intn(levels), chance.Intn(2) == 0
			a, s, _ := claimedOf(number, levels, claims)
			_, other, _ := claimedOf(number, levels, claims)
			by, e := solve.Raise(a, i, level, up)
			if e != api.OK {
				t.Fatal(e)
			}
			if chance.Intn(2) == 0 {
				s = solve.New(a)
			}
			for range 5 {
				k := chance.Intn(n)
				raised, one := claim{by, k}, claim{i, k}
				if above := chance.Intn(3) == 0; above {
					raised, one = claim{k, i}, claim{k, i}
				}
				if !up {
					raised, one = claim{raised.above, raised.below}, claim{one.above, one.below}
				}
				e, f := s.Claim(raised.below, raised.above), other.Claim(one.below, one.above)
				met[e]++
				if e != f {
					t.Fatalf("scene %d, %d levels, %d raised to %d, up %v: %v: %d; of the one %v: %d", number, levels, i, level, up, raised, e, one, f)
				}
				if e != api.OK {
					break
				}
			}
		}
	}
	if met[api.OK] < 5000 || met[api.ErrClash] < 2000 {
		t.Error(met)
	}
}
