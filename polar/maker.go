package polar

import (
	"cmp"
	"slices"

	"azimuth/api"
	"azimuth/arena"
)

// row is a closed row of parts, rising, with a sign.
type row struct {
	plus  bool
	parts []int
}

// key tells parts with a sign from all others.
type key struct {
	plus  bool
	parts string
}

// maker makes the states of the rows of an arena's parts, as they are come to.
type maker struct {
	*arena.Arena
	above, most int
	numbers     map[key]int // of the states, by their rows; also by the parts of which such a row was made, as many kids may have the same
	rows        []row       // of each state, in their order
}

// made: the automaton of a part that is there.
func made(a *arena.Arena, i, above, most int) (Auto, api.Errno) {
	m := &maker{Arena: a, above: above, most: most, numbers: map[key]int{}}
	m.number(true, []int{i})
	var l []State
	for at := 0; at < len(m.rows); at++ {
		l = append(l, m.state(m.rows[at]))
		if m.tooMany() {
			return Auto{}, api.ErrMany
		}
	}
	return Auto{L: l}, api.OK
}

func (m *maker) tooMany() bool { return len(m.rows) > m.most }

// number: that of the state of some parts, in any order; the next one, if it has none yet.
func (m *maker) number(plus bool, parts []int) int {
	// When there are too many, numbers are asked for no more, and rows may be long.
	if m.tooMany() {
		return 0
	}
	// Rising and each once, so that the same parts have the same key.
	parts = often(parts, 1)
	k := keyOf(plus, parts)
	n, known := m.numbers[k]
	if !known {
		n = m.ofRow(row{plus, m.closed(plus, parts)})
		m.numbers[k] = n
	}
	return n
}

func (m *maker) ofRow(r row) int {
	k := keyOf(r.plus, r.parts)
	n, known := m.numbers[k]
	if !known {
		n = len(m.rows)
		m.numbers[k] = n
		m.rows = append(m.rows, r)
	}
	return n
}

// closed: some parts, each once, with all bounds of variables among them, and of those; rising.
func (m *maker) closed(plus bool, parts []int) []int {
	met := map[int]struct{}{}
	var l []int
	put := func(parts []int) {
		for _, i := range parts {
			if _, known := met[i]; !known {
				met[i] = struct{}{}
				l = append(l, i)
			}
		}
	}
	put(parts)
	for at := 0; at < len(l); at++ {
		if plus {
			put(m.Low(l[at]))
		} else {
			put(m.High(l[at]))
		}
	}
	slices.Sort(l)
	return l
}

// state: what a row is.
func (m *maker) state(r row) State {
	s := State{Plus: r.plus}
	var heads [api.TKinds][]api.Head
	for _, i := range r.parts {
		if h, isHead := m.At(i); isHead {
			heads[h.Kind] = append(heads[h.Kind], h)
		} else if m.Level(i) > m.above {
			s.Vars = append(s.Vars, i)
		}
	}
	all, nothing := ends(r.plus)
	if len(heads[all]) > 0 {
		return State{Plus: r.plus, Heads: []api.Head{{Kind: all}}}
	}
	heads[nothing] = nil
	for _, l := range heads {
		if len(l) > 0 {
			s.Heads = append(s.Heads, m.head(r.plus, l))
		}
	}
	return s
}

// head: the one that some heads of one kind are.
func (m *maker) head(plus bool, l []api.Head) api.Head {
	switch kind := l[0].Kind; kind {
	case api.TFun:
		var takes, tells []int
		for _, h := range l {
			takes, tells = append(takes, h.Kids[0]), append(tells, h.Kids[1])
		}
		taken := m.number(!plus, takes)
		return api.Head{Kind: kind, Kids: []int{taken, m.number(plus, tells)}}
	case api.TRecord, api.TVariant:
		return m.named(plus, l)
	default:
		return api.Head{Kind: kind}
	}
}

// named: of records, or of variants. A record counts as an open one: both say nothing of names that they haven't. With plus a name stays if each open one has it, with minus if each other one has; where there is none of these, all stay.
func (m *maker) named(plus bool, l []api.Head) api.Head {
	var names, bounding []string // of all heads; of those each of which must have a name that stays
	bounds := 0
	kids := map[string][]int{}
	for _, h := range l {
		names = append(names, h.Names...)
		for k, name := range h.Names {
			kids[name] = append(kids[name], h.Kids[k])
		}
		if isOpen := h.Open || h.Kind == api.TRecord; isOpen == plus {
			bounding = append(bounding, h.Names...)
			bounds++
		}
	}
	whole := api.Head{Kind: l[0].Kind, Names: often(names, 1)}
	if bounds > 0 {
		whole.Names = often(bounding, bounds)
	}
	whole.Open = whole.Kind == api.TVariant && plus == (bounds > 0)
	for _, name := range whole.Names {
		whole.Kids = append(whole.Kids, m.number(plus, kids[name]))
	}
	return whole
}

// often: what stands in a list at least so many times, each once, rising.
func often[T cmp.Ordered](l []T, least int) []T {
	times := map[T]int{}
	for _, x := range l {
		times[x]++
	}
	var rising []T
	for x, n := range times {
		if n >= least {
			rising = append(rising, x)
		}
	}
	slices.Sort(rising)
	return rising
}

// keyOf: of rising parts. Their numbers are less than MaxArena, so three bytes hold one.
func keyOf(plus bool, parts []int) key {
	var b []byte
	for _, i := range parts {
		b = append(b, byte(i), byte(i>>8), byte(i>>16))
	}
	return key{plus, string(b)}
}
