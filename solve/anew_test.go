package solve_test

import (
	"slices"

	"azimuth/api"
	"azimuth/arena"
)

// The chapter's words, said anew, so that the package isn't held against itself.

// claim is that a part is below another one.
type claim struct{ below, above int }

// anAny stands in claims for any, which need not be a part.
const anAny = -7

// closure is all that follows from claims, and what of it are clashes. Levels and bounds count for nothing in it.
type closure struct {
	arena        *arena.Arena
	all          map[claim]bool
	below, above map[int][]int // of variables
	waiting      []claim
	clashes      []claim
}

func follows(a *arena.Arena, claims []claim) *closure {
	c := &closure{arena: a, all: map[claim]bool{}, below: map[int][]int{}, above: map[int][]int{}}
	for _, x := range claims {
		c.add(x.below, x.above)
	}
	for ; len(c.waiting) > 0; c.waiting = c.waiting[1:] {
		c.next(c.waiting[0].below, c.waiting[0].above)
	}
	return c
}

func (c *closure) add(i, j int) {
	if !c.all[claim{i, j}] {
		c.all[claim{i, j}] = true
		c.waiting = append(c.waiting, claim{i, j})
	}
}

func (c *closure) next(i, j int) {
	if c.arena.IsVar(j) {
		c.below[j] = append(c.below[j], i)
		for _, k := range c.above[j] {
			c.add(i, k)
		}
	}
	if c.arena.IsVar(i) {
		c.above[i] = append(c.above[i], j)
		for _, k := range c.below[i] {
			c.add(k, j)
		}
	}
	if !c.arena.IsVar(i) && !c.arena.IsVar(j) {
		c.heads(i, j)
	}
}

func headAt(a *arena.Arena, i int) api.Head {
	if i == anAny {
		return api.Head{Kind: api.TAny}
	}
	h, ok := a.At(i)
	if !ok {
		panic("the test's own words are wrong: no head")
	}
	return h
}

func (c *closure) heads(i, j int) {
	it, that := headAt(c.arena, i), headAt(c.arena, j)
	if clashAnew(it, that) {
		c.clashes = append(c.clashes, claim{i, j})
		return
	}
	if it.Kind == api.TNone || that.Kind == api.TAny {
		return
	}
	if it.Kind == api.TFun {
		c.add(that.Kids[0], it.Kids[0])
		c.add(it.Kids[1], that.Kids[1])
		return
	}
	for k, name := range that.Names {
		if at := slices.Index(it.Names, name); at >= 0 {
			c.add(it.Kids[at], that.Kids[k])
		} else if it.Open {
			c.add(anAny, that.Kids[k])
		}
	}
}

// clashAnew: does chapter 9 not have the one head below the other one, whatever their kids?
func clashAnew(it, that api.Head) bool {
	if it.Kind == api.TNone || that.Kind == api.TAny {
		return false
	}
	if it.Kind != that.Kind {
		return true
	}
	switch it.Kind {
	case api.TRecord:
		return !hasAll(it, that)
	case api.TVariant:
		return !that.Open && (it.Open || !hasAll(that, it))
	}
	return false
}

// hasAll: has a head all names of another one?
func hasAll(h, of api.Head) bool {
	return !slices.ContainsFunc(of.Names, func(name string) bool { return !slices.Contains(h.Names, name) })
}

// isClash: is a claim of two parts among the clashes? For an any that isn't a part any of them stands.
func (c *closure) isClash(i, j int) bool {
	return slices.Contains(c.clashes, claim{i, j}) || headAt(c.arena, i).Kind == api.TAny && slices.Contains(c.clashes, claim{anAny, j})
}

// isSo: does a claim of two parts follow? So it does of an any, where any is below.
func (c *closure) isSo(i, j int) bool {
	if c.all[claim{i, j}] {
		return true
	}
	return !c.arena.IsVar(i) && headAt(c.arena, i).Kind == api.TAny && c.all[claim{anAny, j}]
}

// told is all that an arena tells of a part.
type told struct {
	isVar     bool
	level     int
	head      api.Head
	low, high []int
}

func toldOf(a *arena.Arena) []told { return toldOfFirst(a, a.Len()) }

func toldOfFirst(a *arena.Arena, n int) []told {
	l := make([]told, n)
	for i := range l {
		h, _ := a.At(i)
		l[i] = told{a.IsVar(i), a.Level(i), h, a.Low(i), a.High(i)}
	}
	return l
}

func sameHeads(a, b api.Head) bool {
	return a.Kind == b.Kind && a.Open == b.Open && slices.Equal(a.Names, b.Names) && slices.Equal(a.Kids, b.Kids)
}

// same: is all the same of a part, but for bounds?
func (x told) same(y told) bool {
	return x.isVar == y.isVar && x.level == y.level && sameHeads(x.head, y.head)
}

// starts: does a list begin with another one?
func starts(l, with []int) bool { return len(l) >= len(with) && slices.Equal(l[:len(with)], with) }

// grown: how it is wrong that an arena that told this tells that now; "" if nothing but new parts and bounds came.
func grown(was, is []told) string {
	if len(is) < len(was) {
		return "there are less parts"
	}
	for i, x := range was {
		if !x.same(is[i]) {
			return "a part changed"
		}
		if !starts(is[i].low, x.low) || !starts(is[i].high, x.high) {
			return "bounds changed"
		}
	}
	return ""
}

// equal: does an arena tell the same?
func equal(was, is []told) bool {
	return slices.EqualFunc(was, is, func(x, y told) bool {
		return x.same(y) && slices.Equal(x.low, y.low) && slices.Equal(x.high, y.high)
	})
}
