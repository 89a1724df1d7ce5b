package solve

import (
	"azimuth/api"
	"azimuth/arena"
)

// draft is an arena, with parts and bounds that aren't put there yet: a claim from which a clash follows, or for which there is no room, leaves none behind.
type draft struct {
	*arena.Arena
	first  int // the number of the first part that isn't there yet
	parts  []part
	bounds []bound
	sides  map[side][]int // the same bounds, each side's
}

// part is a head, or a variable.
type part struct {
	level    int
	variable bool
	head     api.Head
}

// side is what is above a variable, or what is below it.
type side struct {
	of    int
	above bool
}

type bound struct {
	side
	by int
}

// begin: nothing is to be put.
func (d *draft) begin() { *d = draft{Arena: d.Arena, first: d.Arena.Len(), sides: map[side][]int{}} }

// full: are there more parts than the arena has room for?
func (d *draft) full() bool { return len(d.parts) > d.Arena.Room() }

// IsVar: is a part a variable?
func (d *draft) IsVar(i int) bool {
	if i < d.first {
		return d.Arena.IsVar(i)
	}
	return d.parts[i-d.first].variable
}

// Level: a part's.
func (d *draft) Level(i int) int {
	if i < d.first {
		return d.Arena.Level(i)
	}
	return d.parts[i-d.first].level
}

// head: a part that is no variable.
func (d *draft) head(i int) api.Head {
	if i >= d.first {
		return d.parts[i-d.first].head
	}
	h, _ := d.Arena.At(i)
	return h
}

// on: the bounds of a variable on a side.
func (d *draft) on(x side) []int {
	if x.above {
		return append(d.Arena.High(x.of), d.sides[x]...)
	}
	return append(d.Arena.Low(x.of), d.sides[x]...)
}

// add: the number of a part more.
func (d *draft) add(p part) int {
	d.parts = append(d.parts, p)
	return d.first + len(d.parts) - 1
}

// bind: a bound more.
func (d *draft) bind(x side, by int) {
	d.bounds = append(d.bounds, bound{x, by})
	d.sides[x] = append(d.sides[x], by)
}

// put puts all in the arena; where there is no room for all, nothing.
func (d *draft) put() api.Errno {
	if d.full() {
		return api.ErrLimit
	}
	for _, p := range d.parts {
		d.putPart(p)
	}
	for _, b := range d.bounds {
		d.Arena.Bound(b.of, b.by, b.above)
	}
	d.begin()
	return api.OK
}

func (d *draft) putPart(p part) {
	if p.variable {
		d.Arena.Var(p.level)
	} else {
		d.Arena.Head(p.head)
	}
}
