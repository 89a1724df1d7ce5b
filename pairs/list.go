package pairs

import "math/bits"

// pair is two heads, or parts, of which something must hold.
type pair struct{ it, that int }

// side is how many in a row make, with as many others in a row, a square of pairs that share a key: two types may have millions of pairs, and a key for each takes long.
const side = 8

// List tells each pair that is put to it, once.
type List struct {
	squares map[pair]marks // by the first pair of each
	waiting []pair         // the first pairs of squares in which some wait
}

// marks tell by a bit for each pair of a square which were put, and which of those wait to be told.
type marks struct{ put, wait uint64 }

// New: a list without pairs.
func New() *List { return &List{squares: map[pair]marks{}} }

// Put puts a pair on the list.
func (l *List) Put(it, that int) {
	first, bit := square(it, that)
	m := l.squares[first]
	if m.put&bit != 0 {
		return
	}
	if m.wait == 0 {
		l.waiting = append(l.waiting, first)
	}
	l.squares[first] = marks{m.put | bit, m.wait | bit}
}

// Has: was a pair put on the list?
func (l *List) Has(it, that int) bool {
	first, bit := square(it, that)
	return l.squares[first].put&bit != 0
}

// square: the first pair of that in which a pair is, and its bit there.
func square(it, that int) (pair, uint64) {
	i, j := it%side, that%side
	return pair{it - i, that - j}, 1 << (i*side + j)
}

// All: does nothing speak against any pair, those too that are put while others are looked at?
func (l *List) All(look func(it, that int) bool) bool {
	for {
		p, more := l.next()
		if !more {
			return true
		}
		if !look(p.it, p.that) {
			return false
		}
	}
}

// next: a pair that waits; false, if none does.
func (l *List) next() (pair, bool) {
	if len(l.waiting) == 0 {
		return pair{}, false
	}
	last := len(l.waiting) - 1
	first := l.waiting[last]
	m := l.squares[first]
	at := bits.TrailingZeros64(m.wait)
	m.wait &^= 1 << at
	l.squares[first] = m
	if m.wait == 0 {
		l.waiting = l.waiting[:last]
	}
	return pair{first.it + at/side, first.that + at%side}, true
}
