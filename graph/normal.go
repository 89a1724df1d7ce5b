package graph

import (
	"azimuth/api"
	"cmp"
	"slices"
	"strings"
)

// normal: the normal graph of one that may be.
func normal(g api.Graph) api.Graph {
	c := classesOf(g.L)
	numbers := make([]int, len(c.heads)) // of classes, counted from 1 on; 0: it has none yet
	var order []int                      // a head of each class that has a number
	number := func(i int) int {
		n := &numbers[c.of[i]]
		if *n == 0 {
			order = append(order, i)
			*n = len(order)
		}
		return *n - 1
	}
	number(g.Root)
	var l []api.Head
	for at := 0; at < len(order); at++ {
		h := g.L[order[at]]
		n := api.Head{Kind: h.Kind, Names: append([]string(nil), h.Names...), Open: h.Open}
		for _, kid := range h.Kids {
			n.Kids = append(n.Kids, number(kid))
		}
		l = append(l, n)
	}
	return api.Graph{L: l}
}

// classes parts heads, till those of a class are alike: at each place their kids are of one class, too.
type classes struct {
	heads   [][]int  // of each class
	of      []int    // the class of each head
	at      []int    // where each head stands among those of its class
	into    [][]step // for each head where it is a kid
	waiting []int    // classes by which others may have to be parted yet
	waits   []bool   // is a class one of those?
}

// step is a place among a head's kids.
type step struct{ place, from int }

func classesOf(l []api.Head) *classes {
	c := &classes{of: make([]int, len(l)), at: make([]int, len(l)), into: make([][]step, len(l))}
	known := map[string]int{}
	for i, h := range l {
		looks := string(signOf(h)) + strings.Join(h.Names, ":")
		n, there := known[looks]
		if !there {
			n = c.add()
			known[looks] = n
			c.wait(n)
		}
		c.put(i, n)
		for place, kid := range h.Kids {
			c.into[kid] = append(c.into[kid], step{place, i})
		}
	}
	for len(c.waiting) > 0 {
		c.partByNext()
	}
	return c
}

// add: the number of one more class, without heads.
func (c *classes) add() int {
	c.heads, c.waits = append(c.heads, nil), append(c.waits, false)
	return len(c.heads) - 1
}

func (c *classes) wait(n int) {
	c.waiting = append(c.waiting, n)
	c.waits[n] = true
}

func (c *classes) put(i, n int) {
	c.of[i], c.at[i] = n, len(c.heads[n])
	c.heads[n] = append(c.heads[n], i)
}

// take takes a head out of its class; the last one there comes to stand where it stood.
func (c *classes) take(i int) {
	l := c.heads[c.of[i]]
	last := l[len(l)-1]
	l[c.at[i]], c.at[last] = last, c.at[i]
	c.heads[c.of[i]] = l[:len(l)-1]
}

// partByNext parts classes by the next one that waits, place by place at which its heads are kids.
func (c *classes) partByNext() {
	last := len(c.waiting) - 1
	n := c.waiting[last]
	c.waiting = c.waiting[:last]
	c.waits[n] = false
	var steps []step
	for _, i := range c.heads[n] {
		steps = append(steps, c.into[i]...)
	}
	slices.SortFunc(steps, func(a, b step) int { return cmp.Compare(a.place, b.place) })
	for len(steps) > 0 {
		end := slices.IndexFunc(steps, func(s step) bool { return s.place != steps[0].place })
		if end < 0 {
			end = len(steps)
		}
		c.partBy(steps[:end])
		steps = steps[end:]
	}
}

// partBy parts each class of which some heads, but not all, are those of some steps.
func (c *classes) partBy(steps []step) {
	var met []int
	some := map[int][]int{}
	for _, s := range steps {
		n := c.of[s.from]
		if len(some[n]) == 0 {
			met = append(met, n)
		}
		some[n] = append(some[n], s.from)
	}
	for _, n := range met {
		if len(some[n]) < len(c.heads[n]) {
			c.split(n, some[n])
		}
	}
}

// split takes some heads out of a class, in one of their own.
func (c *classes) split(n int, some []int) {
	own := c.add()
	for _, i := range some {
		c.take(i)
		c.put(i, own)
	}
	// Unless the whole waits still, one of its parts parts others as well as both: the lesser one, which takes less time.
	if c.waits[n] || len(some) <= len(c.heads[n]) {
		c.wait(own)
	} else {
		c.wait(n)
	}
}
