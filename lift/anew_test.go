package lift_test

import (
	"fmt"
	"slices"
	"testing"

	"azimuth/api"
	"azimuth/arena"
	"azimuth/lift"
)

// The chapter's words, said anew, so that the package isn't held against itself.

// told is all that an arena tells of a part.
type told struct {
	isVar     bool
	level     int
	head      api.Head
	low, high []int
}

func toldOf(a *arena.Arena) []told {
	l := make([]told, a.Len())
	for i := range l {
		h, _ := a.At(i)
		l[i] = told{a.IsVar(i), a.Level(i), h, a.Low(i), a.High(i)}
	}
	return l
}

// like: are two parts alike but for kids and bounds, and have they as many of these?
func (x told) like(y told) bool {
	return x.isVar == y.isVar && x.head.Kind == y.head.Kind && x.head.Open == y.head.Open && slices.Equal(x.head.Names, y.head.Names) &&
		len(x.head.Kids) == len(y.head.Kids) && len(x.low) == len(y.low) && len(x.high) == len(y.high)
}

// equal: does an arena tell the same?
func equal(was, is []told) bool {
	return slices.EqualFunc(was, is, func(x, y told) bool {
		return x.like(y) && x.level == y.level && slices.Equal(x.head.Kids, y.head.Kids) && slices.Equal(x.low, y.low) && slices.Equal(x.high, y.high)
	})
}

// toAnew: the parts to which one comes at once.
func toAnew(parts []told, i, above int) []int {
	switch x := parts[i]; {
	case !x.isVar:
		return x.head.Kids
	case x.level > above:
		return slices.Concat(x.low, x.high)
	}
	return nil
}

// reachAnew: all parts that one comes to, rising: as long as one more is found, all are asked again.
func reachAnew(parts []told, i, above int) (l []int) {
	if i < 0 || i >= len(parts) {
		return nil
	}
	in := make([]bool, len(parts))
	in[i] = true
	for more := true; more; {
		more = false
		for k := range parts {
			if !in[k] {
				continue
			}
			for _, j := range toAnew(parts, k, above) {
				if !in[j] {
					in[j], more = true, true
				}
			}
		}
	}
	for k, is := range in {
		if is {
			l = append(l, k)
		}
	}
	return l
}

// freeAnew: how many of those that one comes to are variables above a level.
func freeAnew(parts []told, i, above int) (n int) {
	for _, k := range reachAnew(parts, i, above) {
		if parts[k].isVar && parts[k].level > above {
			n++
		}
	}
	return n
}

// asksAnew: how many of those that one comes to are above a level, heads too: so many new ones will do.
func asksAnew(parts []told, i, above int) (n int) {
	for _, k := range reachAnew(parts, i, above) {
		if parts[k].level > above {
			n++
		}
	}
	return n
}

// pairing holds old parts against their fresh ones.
type pairing struct {
	is           []told // all parts, of which the first so many are old
	old          int
	above, level int
	of, by       map[int]int // an old variable's fresh one; of a new part the old one
	met          map[[2]int]bool
	waiting      [][2]int
}

func pairingOf(is []told, old, above, level int) *pairing {
	return &pairing{is: is, old: old, above: above, level: level, of: map[int]int{}, by: map[int]int{}, met: map[[2]int]bool{}}
}

func (p *pairing) put(i, k int) {
	if !p.met[[2]int{i, k}] {
		p.met[[2]int{i, k}] = true
		p.waiting = append(p.waiting, [2]int{i, k})
	}
}

// all: what is wrong with a part's fresh one, "" if nothing is.
func (p *pairing) all(i, fresh int) string {
	for p.put(i, fresh); len(p.waiting) > 0; {
		i, k := p.waiting[0][0], p.waiting[0][1]
		p.waiting = p.waiting[1:]
		if wrong := p.one(i, k); wrong != "" {
			return fmt.Sprintf("%d for %d: %s", k, i, wrong)
		}
	}
	for k := p.old; k < len(p.is); k++ {
		if _, known := p.by[k]; !known {
			return fmt.Sprintf("%d is new, and no part's fresh one", k)
		}
	}
	return ""
}

func (p *pairing) one(i, k int) string {
	it, that := p.is[i], p.is[k]
	if it.level <= p.above {
		if i != k {
			return "it should be itself"
		}
		return ""
	}
	if k < p.old {
		return "it isn't new"
	}
	if of, known := p.by[k]; known && of != i {
		return fmt.Sprintf("it is that of %d, too", of)
	}
	p.by[k] = i
	if !it.like(that) {
		return fmt.Sprintf("%v, of %v", that, it)
	}
	if it.isVar {
		if fresh, known := p.of[i]; known && fresh != k {
			return fmt.Sprintf("so is %d", fresh)
		}
		p.of[i] = k
		if that.level != p.level {
			return fmt.Sprintf("its level is %d", that.level)
		}
	}
	for _, rows := range [][2][]int{{it.head.Kids, that.head.Kids}, {it.low, that.low}, {it.high, that.high}} {
		for n := range rows[0] {
			p.put(rows[0][n], rows[1][n])
		}
	}
	return ""
}

// fresh asks for a fresh one, and looks whether all that is told behind it is as the words say. It answers the new numbers, too: of variables each, of heads none.
func fresh(t *testing.T, a *arena.Arena, i, above, level int) (int, map[int]int) {
	t.Helper()
	was, room := toldOf(a), a.Room()
	asks := asksAnew(was, i, above)
	k, e := lift.Fresh(a, i, above, level)
	if e != api.OK {
		t.Fatalf("Fresh of %d above %d, to %d, with room for %d: %d; it asks for %d", i, above, level, room, e, asks)
	}
	is := toldOf(a)
	if len(is) < len(was) || !equal(was, is[:len(was)]) {
		t.Fatalf("Fresh of %d above %d, to %d: what was there changed", i, above, level)
	}
	if n := len(is) - len(was); n != asks || a.Room() != room-n {
		t.Fatalf("Fresh of %d above %d, to %d: %d parts came in, %d are asked for", i, above, level, n, asks)
	}
	p := pairingOf(is, len(was), above, level)
	if wrong := p.all(i, k); wrong != "" {
		t.Fatalf("Fresh of %d above %d, to %d: %s; it was %v, and is %v", i, above, level, wrong, was, is[len(was):])
	}
	return k, p.of
}

// refused asks for a fresh one that can't be, and looks whether all is as it was.
func refused(t *testing.T, a *arena.Arena, i, above, level int, want api.Errno) {
	t.Helper()
	was, room := toldOf(a), a.Room()
	if k, e := lift.Fresh(a, i, above, level); k != 0 || e != want {
		t.Fatalf("Fresh of %d above %d, to %d: %d, %d; it is %d", i, above, level, k, e, want)
	}
	if a.Room() != room || !equal(was, toldOf(a)) {
		t.Fatalf("Fresh of %d above %d, to %d, with %d: the arena isn't as it was", i, above, level, want)
	}
}

// asked looks whether Reach and Free tell of a part what the words say, and change nothing.
func asked(t *testing.T, a *arena.Arena, i, above int) {
	t.Helper()
	was := toldOf(a)
	if l, want := lift.Reach(a, i, above), reachAnew(was, i, above); !slices.Equal(l, want) {
		t.Fatalf("Reach of %d above %d: %v; it is %v", i, above, l, want)
	}
	if n, want := lift.Free(a, i, above), freeAnew(was, i, above); n != want {
		t.Fatalf("Free of %d above %d: %d; it is %d", i, above, n, want)
	}
	if !equal(was, toldOf(a)) {
		t.Fatalf("Reach or Free of %d above %d changes something", i, above)
	}
}
