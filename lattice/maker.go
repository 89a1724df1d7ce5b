package lattice

import (
	"azimuth/api"
	"azimuth/pairs"
)

// The ways in which a head is made.
const (
	alone  = iota // it is a head of one type, as that is there
	joined        // of a head of each type
	met           // of a head of each type
)

// turned: what functions take is met where they are joined, and the other way round.
func turned(way int) int { return joined + met - way }

// counted: the kind that counts for nothing beside another head.
func counted(way int) int {
	if way == joined {
		return api.TNone
	}
	return api.TAny
}

// part is what a head is made of: in a way, of one head, or of two.
type part struct{ way, it, that int }

// maker makes the heads of a join or a meet, one for each part.
type maker struct {
	from    []api.Head // those of both types
	numbers map[part]int
	parts   []part // in the order of their numbers
}

// made: the join or the meet of two graphs that may be, ahead of being made normal.
func made(a, b api.Graph, way int) (api.Graph, api.Errno) {
	m := &maker{numbers: map[part]int{}}
	root := m.two(way, m.add(a), m.add(b))
	var l []api.Head
	for at := 0; at < len(m.parts); at++ {
		l = append(l, m.head(m.parts[at]))
		if len(m.parts) > api.MaxStates {
			return api.Graph{}, api.ErrMany
		}
	}
	return api.Graph{L: l, Root: root}, api.OK
}

// add puts a graph's heads behind those that are there; it answers its root's number among them.
func (m *maker) add(g api.Graph) int {
	first := len(m.from)
	for _, h := range g.L {
		kids := make([]int, len(h.Kids))
		for i := range kids {
			kids[i] = first + h.Kids[i]
		}
		h.Kids = kids
		m.from = append(m.from, h)
	}
	return first + g.Root
}

// one: the number of a head that stays as it is.
func (m *maker) one(i int) int { return m.number(part{way: alone, it: i}) }

// two: the number of the head that is made of two.
func (m *maker) two(way, it, that int) int {
	switch counted(way) {
	case m.from[it].Kind:
		return m.one(that)
	case m.from[that].Kind:
		return m.one(it)
	}
	return m.number(part{way, it, that})
}

// number: that of a part's head; the next one, if it has none yet.
func (m *maker) number(p part) int {
	n, known := m.numbers[p]
	if !known {
		n = len(m.parts)
		m.numbers[p] = n
		m.parts = append(m.parts, p)
	}
	return n
}

func (m *maker) head(p part) api.Head {
	it, that := m.from[p.it], m.from[p.that]
	switch {
	case p.way == alone:
		return m.same(it)
	case it.Kind != that.Kind:
		return api.Head{Kind: counted(turned(p.way))}
	case it.Kind == api.TFun:
		taken := m.two(turned(p.way), it.Kids[0], that.Kids[0])
		told := m.two(p.way, it.Kids[1], that.Kids[1])
		return api.Head{Kind: api.TFun, Kids: []int{taken, told}}
	}
	return m.named(p.way, it, that)
}

// same: a head as it is, its kids too.
func (m *maker) same(h api.Head) api.Head {
	kids := make([]int, len(h.Kids))
	for i := range kids {
		kids[i] = m.one(h.Kids[i])
	}
	h.Kids = kids
	return h
}

// named: of two heads of one kind, by their names. Of a kind without kids, which has no names, that comes of it.
func (m *maker) named(way int, it, that api.Head) api.Head {
	h := api.Head{Kind: it.Kind, Open: it.Open && that.Open}
	if way == joined {
		h.Open = it.Open || that.Open
	}
	its, those := stays(way, that), stays(way, it)
	for len(it.Names) > 0 || len(that.Names) > 0 {
		it = m.ahead(&h, it, that, its)
		that = m.ahead(&h, that, it, those)
		// Where the one has no names left, the other one has none either.
		if len(that.Names) > 0 && it.Names[0] == that.Names[0] {
			h.Names = append(h.Names, it.Names[0])
			h.Kids = append(h.Kids, m.two(way, it.Kids[0], that.Kids[0]))
			it, that = behind(it, 1), behind(that, 1)
		}
	}
	return h
}

// stays: does a name stay that the other head hasn't?
func stays(way int, other api.Head) bool {
	// What a record or an open variant hasn't may be anything there: met with what the one has it is that, joined it says nothing. With a variant that isn't open it is the other way round.
	return (way == met) == (other.Open || other.Kind == api.TRecord)
}

// ahead takes the first names of a head, all that stand ahead of the other one's names, and puts those in a new head that stay; what is left is answered.
func (m *maker) ahead(h *api.Head, it, that api.Head, stay bool) api.Head {
	n := len(it.Names)
	if len(that.Names) > 0 {
		n = pairs.Ahead(it.Names, that.Names[0])
	}
	if stay {
		h.Names = append(h.Names, it.Names[:n]...)
		for i := range n {
			h.Kids = append(h.Kids, m.one(it.Kids[i]))
		}
	}
	return behind(it, n)
}

// behind: a head without its first names.
func behind(h api.Head, n int) api.Head {
	h.Names, h.Kids = h.Names[n:], h.Kids[n:]
	return h
}
