package lift_test

import (
	"math/rand"
	"slices"
	"testing"

	"azimuth/api"
	"azimuth/arena"
	"azimuth/lift"
	"azimuth/solve"
)

// P14.2: claims of a part, ahead; then of its fresh one, which is told by F; then of the old one, by another solver.
func TestClaims(t *testing.T) {
	for _, x := range []struct {
		ahead  [][2]string
		of     string
		fresh  [][2]string // the last one is answered so
		want   api.Errno
		behind [][2]string // so is the last one of these
		old    api.Errno
	}{
		{nil, "V1", [][2]string{{"int", "F"}, {"F", "int"}}, api.OK, [][2]string{{"str", "V1"}, {"V1", "str"}}, api.OK},
		{nil, "V1", [][2]string{{"int", "F"}, {"F", "str"}}, api.ErrClash, [][2]string{{"str", "V1"}, {"V1", "str"}}, api.OK},
		{[][2]string{{"int", "V1"}}, "V1", [][2]string{{"F", "str"}}, api.ErrClash, [][2]string{{"V1", "int"}}, api.OK},
		{[][2]string{{"int", "V1"}}, "V1", [][2]string{{"str", "F"}, {"F", "any"}}, api.OK, [][2]string{{"V1", "int"}}, api.OK},
		{[][2]string{{"V1", "int"}}, "V1", [][2]string{{"str", "F"}}, api.ErrClash, [][2]string{{"int", "V1"}}, api.OK},
		{[][2]string{{"V1", "int"}}, "V1", [][2]string{{"int", "F"}}, api.OK, [][2]string{{"str", "V1"}}, api.ErrClash},
		{nil, "V1 -> V1", [][2]string{{"F", "int -> str"}}, api.ErrClash, [][2]string{{"V1 -> V1", "str -> str"}}, api.OK},
		{nil, "V1 -> V1", [][2]string{{"F", "int -> int"}}, api.OK, [][2]string{{"V1 -> V1", "str -> str"}}, api.OK},
		{nil, "V1 -> V1", [][2]string{{"F", "int -> W1"}, {"W1", "str"}}, api.ErrClash, [][2]string{{"V1 -> V1", "int -> int"}}, api.OK},
		{[][2]string{{"V1", "W1"}}, "V1 -> W1", [][2]string{{"F", "int -> str"}}, api.ErrClash, [][2]string{{"V1 -> W1", "str -> str"}}, api.OK},
		{[][2]string{{"V1", "W1"}}, "{a: W1, b: V1}", [][2]string{{"{a: none, b: int}", "F"}, {"F", "{a: int}"}}, api.OK, [][2]string{{"str", "V1"}}, api.OK},
		{[][2]string{{"W1", "V1"}}, "V1", [][2]string{{"F", "str"}}, api.OK, [][2]string{{"int", "W1"}}, api.OK},
		{[][2]string{{"W1", "V1"}, {"int", "W1"}}, "V1", [][2]string{{"F", "str"}}, api.ErrClash, [][2]string{{"W1", "int"}}, api.OK},
		{[][2]string{{"V1", "W1"}, {"W1", "X1"}, {"X1", "{a: U1}"}}, "V1", [][2]string{{"{a: int}", "F"}}, api.OK, [][2]string{{"U1", "str"}, {"{a: str}", "V1"}}, api.OK},
		{[][2]string{{"V1", "W1"}, {"W1", "X1"}, {"X1", "{a: U1}"}}, "V1", [][2]string{{"{b: int}", "F"}}, api.ErrClash, [][2]string{{"{a: int}", "V1"}, {"U1", "str"}}, api.ErrClash},
		{[][2]string{{"V1", "{a: V1}"}}, "V1", [][2]string{{"{a: {a: {b: int}}}", "F"}}, api.ErrClash, [][2]string{{"type A = {a: A}; A", "V1"}}, api.OK},
		{[][2]string{{"V1", "{a: V1}"}}, "V1", [][2]string{{"type A = {a: A}; A", "F"}}, api.OK, [][2]string{{"{a: {a: {b: int}}}", "V1"}}, api.ErrClash},
		{[][2]string{{"V1 -> int", "V1"}}, "V1", [][2]string{{"F", "any -> int"}}, api.ErrClash, [][2]string{{"V1", "none -> any"}}, api.OK},
		{[][2]string{{"[#a int | ..]", "V1"}}, "V1", [][2]string{{"F", "[#a int | #b W3 | ..]"}, {"W3", "int"}}, api.ErrClash, [][2]string{{"V1", "[#a any | ..]"}}, api.OK},
		// across levels
		{[][2]string{{"{a: V3}", "W1"}, {"W1", "U2"}}, "U2", [][2]string{{"F", "{a: X1}"}, {"X1", "int"}}, api.OK, [][2]string{{"str", "V3"}, {"U2", "{a: str}"}}, api.OK},
		{[][2]string{{"{a: V3}", "W1"}, {"int", "V3"}}, "W1", [][2]string{{"F", "{a: str}"}}, api.ErrClash, [][2]string{{"W1", "{a: int}"}}, api.OK},
	} {
		for _, level := range []int{0, 1, 5} {
			w := newWorld(t, 300)
			s := solve.New(w.Arena)
			w.part(x.of)
			w.claimed(s, x.ahead, api.OK)
			w.parts["F"], _ = fresh(t, w.Arena, w.part(x.of), 0, level)
			w.claimed(s, x.fresh, x.want)
			w.claimed(solve.New(w.Arena), x.behind, x.old)
		}
	}
}

// claimed claims a row, of which the last one is answered so, and the others are made.
func (w *world) claimed(s *solve.Solver, row [][2]string, want api.Errno) {
	w.t.Helper()
	for n, x := range row {
		wanted := api.OK
		if n == len(row)-1 {
			wanted = want
		}
		if e := s.Claim(w.part(x[0]), w.part(x[1])); e != wanted {
			w.t.Fatalf("%s below %s, of %v: %d; it is %d", x[0], x[1], row, e, wanted)
		}
	}
}

// P14.2: fresh ones of one part are held apart from one another.
func TestClaimsOfTwo(t *testing.T) {
	w := newWorld(t, 100)
	s := solve.New(w.Arena)
	f := w.part("V1 -> {a: V1}")
	w.parts["F"], _ = fresh(t, w.Arena, f, 0, 1)
	w.parts["G"], _ = fresh(t, w.Arena, f, 0, 1)
	w.parts["H"], _ = fresh(t, w.Arena, w.part("F"), 0, 2)
	w.claimed(s, [][2]string{{"F", "int -> {a: int}"}, {"G", "str -> {a: str}"}, {"H", "bool -> {a: bool}"}, {"V1 -> {a: V1}", "float -> {a: float}"}}, api.OK)
	w.parts["I"], _ = fresh(t, w.Arena, w.part("F"), 0, 1)
	w.claimed(s, [][2]string{{"I", "int -> {a: any}"}, {"I", "none -> {a: str}"}}, api.ErrClash)
}

// anyClaim: of two of some parts.
func anyClaim(chance *rand.Rand, of []int) [2]int {
	return [2]int{of[chance.Intn(len(of))], of[chance.Intn(len(of))]}
}

// settled: a scene in which a row of claims was made that don't clash, and the solver.
func settled(number, lowest, levels int) (*arena.Arena, *solve.Solver, *rand.Rand) {
	a, chance := scene(number, lowest, levels)
	var all []int
	for i := range a.Len() {
		all = append(all, i)
	}
	var claims [][2]int
	for range chance.Intn(16) {
		claims = append(claims, anyClaim(chance, all))
	}
	// A claim that clashes ends a solver: those that do are left out, and the others claimed again.
	for {
		a, _ := scene(number, lowest, levels)
		s := solve.New(a)
		wrong := slices.IndexFunc(claims, func(x [2]int) bool { return s.Claim(x[0], x[1]) != api.OK })
		if wrong < 0 {
			return a, s, chance
		}
		claims = slices.Delete(claims, wrong, wrong+1)
	}
}

// stands asks for a part's fresh one, and tells of each new one to which that comes of which old one it is: of those so many first ones, for in the parts that a solver made itself only it may claim. None of the variables that are met may be of a level that isn't above.
func stands(t *testing.T, a *arena.Arena, first, i, above, level int) (news, olds []int, may bool) {
	t.Helper()
	for _, k := range lift.Reach(a, i, above) {
		if a.IsVar(k) && a.Level(k) <= above {
			return nil, nil, false
		}
	}
	n := a.Len()
	k, _ := fresh(t, a, i, above, level)
	p := pairingOf(toldOf(a), n, above, level)
	p.all(i, k)
	for k := n; k < a.Len(); k++ {
		if p.by[k] < first {
			news, olds = append(news, k), append(olds, p.by[k])
		}
	}
	return news, olds, len(news) > 0
}

// closed: the heads of level 0 in which there is no variable.
func closed(a *arena.Arena) (l []int) {
	for i := range a.Parts() {
		if lift.Free(a, i, -1) == 0 {
			l = append(l, i)
		}
	}
	return l
}

// P14.2: by chance: what is claimed of fresh ones, and of closed types, clashes just if it would of the old ones; and behind it the old ones are as if nothing had been claimed.
func TestClaimsByChance(t *testing.T) {
	met, behind := map[api.Errno]int{}, map[api.Errno]int{}
	for number := range 6000 {
		for _, x := range [][3]int{{1, 1, 0}, {1, 3, 0}, {0, 3, 0}, {1, 4, 1}} { // the lowest level, how many, and above which
			a, s, chance := settled(number, x[0], x[1])
			own, _ := scene(number, x[0], x[1])
			i, level := chance.Intn(a.Len()), chance.Intn(5)
			news, olds, may := stands(t, a, own.Len(), i, x[2], level)
			if !may {
				continue
			}
			b, other, _ := settled(number, x[0], x[1])
			both := closed(b)
			if chance.Intn(2) == 0 {
				s = solve.New(a)
			}
			was, n := toldOf(a), b.Len()
			e := api.OK
			for range 1 + chance.Intn(6) {
				y := anyClaim(chance, slices.Concat(news, news, both))
				if e = s.Claim(y[0], y[1]); e != other.Claim(oldOf(y[0], news, olds), oldOf(y[1], news, olds)) {
					t.Fatalf("scene %d, levels %v, of %d: %v of %v, %v: %d", number, x, i, y, news, olds, e)
				}
				met[e]++
				if e != api.OK {
					s = solve.New(a)
					break
				}
			}
			if !equal(was[:n], toldOf(a)[:n]) {
				t.Fatalf("scene %d, levels %v, of %d: claims of %v say something of the old ones", number, x, i, news)
			}
			third, last, _ := settled(number, x[0], x[1])
			for range 3 {
				y := anyClaim(chance, slices.Concat(olds, closed(third)))
				e := s.Claim(y[0], y[1])
				behind[e]++
				if e != last.Claim(y[0], y[1]) {
					t.Fatalf("scene %d, levels %v, of %d: behind claims of %v, %v: %d", number, x, i, news, y, e)
				}
			}
		}
	}
	if met[api.OK] < 5000 || met[api.ErrClash] < 2000 || behind[api.OK] < 5000 || behind[api.ErrClash] < 2000 {
		t.Error(met, behind)
	}
}

// oldOf: that of which a part is the fresh one; of others themselves.
func oldOf(i int, news, olds []int) int {
	if at := slices.Index(news, i); at >= 0 {
		return olds[at]
	}
	return i
}
