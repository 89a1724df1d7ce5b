package runes

import (
	"bytes"
	"math"
	"testing"

	"azimuth/api"
)

// sign is one that All tells.
type sign struct {
	at int
	r  rune
}

// isSign and written are the chapter's words, said anew, so that the package isn't held against itself.
func isSign(r rune) bool {
	return r >= 0 && r <= 0x10ffff && (r < 0xd800 || r > 0xdfff)
}

func written(r rune) []byte {
	tail := func(shift int) byte { return byte(0x80 | r>>shift&0x3f) }
	switch {
	case r < 0x80:
		return []byte{byte(r)}
	case r < 0x800:
		return []byte{byte(0xc0 | r>>6), tail(0)}
	case r < 0x10000:
		return []byte{byte(0xe0 | r>>12), tail(6), tail(0)}
	}
	return []byte{byte(0xf0 | r>>18), tail(12), tail(6), tail(0)}
}

// first finds the sign at the beginning of b by writing what its bits say, and looking whether that stands there.
func first(b []byte) (rune, int) {
	lead := []rune{0x7f, 0x1f, 0x0f, 0x07}
	for n := 1; n <= 4 && n <= len(b); n++ {
		r := rune(b[0]) & lead[n-1]
		for _, c := range b[1:n] {
			r = r<<6 | rune(c&0x3f)
		}
		if isSign(r) && bytes.Equal(written(r), b[:n]) {
			return r, n
		}
	}
	return 0, 0
}

// wantSigns: all signs, and Bad.
func wantSigns(b []byte) ([]sign, int) {
	var l []sign
	for at := 0; at < len(b); {
		r, n := first(b[at:])
		if n == 0 {
			return l, at
		}
		l = append(l, sign{at, r})
		at += n
	}
	return l, -1
}

// wantWhere: the line and the column, by going back from the place.
func wantWhere(b []byte, at int) (int, int) {
	l, bad := wantSigns(b)
	if bad >= 0 {
		for i := bad; i < len(b); i++ {
			l = append(l, sign{i, rune(b[i])})
		}
	}
	line, column := 1, 1
	inLine := true
	for i := len(l) - 1; i >= 0; i-- {
		if l[i].at >= at {
			continue
		}
		if l[i].r == 10 {
			line++
			inLine = false
		}
		if inLine {
			column++
		}
	}
	return line, column
}

func told(b []byte) []sign {
	var l []sign
	for at, r := range All(b) {
		l = append(l, sign{at, r})
	}
	return l
}

func same(a, b []sign) bool {
	if len(a) != len(b) {
		return false
	}
	for i := range a {
		if a[i] != b[i] {
			return false
		}
	}
	return true
}

// texts goes through all rows of up to four of the bytes at which signs begin, end or fail.
func texts(do func(b []byte)) {
	edge := []byte{0, 10, 'a', 0x7f, 0x80, 0x8f, 0x90, 0x9f, 0xa0, 0xbf, 0xc0, 0xc1, 0xc2, 0xdf, 0xe0, 0xe1, 0xec, 0xed, 0xee, 0xef, 0xf0, 0xf1, 0xf3, 0xf4, 0xf5, 0xf8, 0xff}
	var row func(b []byte)
	row = func(b []byte) {
		do(b)
		if len(b) == 4 {
			return
		}
		for _, c := range edge {
			row(append(b[:len(b):len(b)], c))
		}
	}
	row(nil)
}

// P1.1, P1.3: every sign is written in the fewest bytes, and read again.
func TestEncodeEverySign(t *testing.T) {
	for r := rune(-2); r <= 0x110002; r++ {
		b, e := Encode(r)
		if !isSign(r) {
			if b != nil || e != api.ErrText {
				t.Fatalf("%#x: %x, %d", r, b, e)
			}
			continue
		}
		if e != api.OK || !bytes.Equal(b, written(r)) {
			t.Fatalf("%#x: %x, %d", r, b, e)
		}
		if Bad(b) != -1 || Count(b) != 1 || !same(told(b), []sign{{0, r}}) {
			t.Fatalf("%#x isn't read again: %d, %d, %v", r, Bad(b), Count(b), told(b))
		}
	}
}

// P1.1: the edges by their bytes, and numbers at their ends.
func TestEncodeEdges(t *testing.T) {
	for r, want := range map[rune]string{
		0: "\x00", 10: "\n", 'a': "a", 0x7f: "\x7f", 0x80: "\xc2\x80", 0x7ff: "\xdf\xbf",
		0x800: "\xe0\xa0\x80", 0x20ac: "\xe2\x82\xac", 0xd7ff: "\xed\x9f\xbf", 0xe000: "\xee\x80\x80",
		0xfffd: "\xef\xbf\xbd", 0xffff: "\xef\xbf\xbf", 0x10000: "\xf0\x90\x80\x80", 0x10ffff: "\xf4\x8f\xbf\xbf",
	} {
		if b, e := Encode(r); e != api.OK || string(b) != want {
			t.Errorf("%#x: %x, %d", r, b, e)
		}
	}
	for _, r := range []rune{math.MinInt32, -1, 0xd800, 0xdbff, 0xdc00, 0xdfff, 0x110000, 0x1fffff, math.MaxInt32} {
		if b, e := Encode(r); e != api.ErrText || b != nil {
			t.Errorf("%#x: %x, %d", r, b, e)
		}
	}
}

// P1.1: Bad at ordinary texts, at texts that are cut off, and at bytes that are no signs.
func TestBad(t *testing.T) {
	for text, want := range map[string]int{
		"": -1, "a": -1, "a\x00\n\x7f": -1, "\u00e4\u20ac\U0001f600": -1, "x\ufffdy": -1,
		"\x80": 0, "a\xbf": 1, "\u20ac\x80": 3, // nothing to which they belong
		"\xc2": 0, "\xe2": 0, "\xe2\x82": 0, "\xf0\x9f\x98": 0, "ab\xf0": 2, "\u00e4\xe2\x82": 2, // cut off
		"\xe2\x82a": 0, "a\xf0\x9f\x98\n": 1, "\xc2\xc2\x80": 0, // cut off by another sign
		"ab\xc0\x80": 2, "\xc1\xbf": 0, "\xe0\x80\x80": 0, "a\xe0\x9f\xbf": 1, "\xf0\x80\x80\x80": 0, "\xf0\x8f\xbf\xbf": 0, // more than the fewest bytes
		"\xed\x9f\xbf": -1, "\xed\xa0\x80": 0, "a\xed\xbf\xbf": 1, "\xee\x80\x80": -1, // around 0xd800 and 0xdfff
		"\xf4\x8f\xbf\xbf": -1, "\xf4\x90\x80\x80": 0, "\xf5\x80\x80\x80": 0, "\xf8\x88\x80\x80\x80": 0, "\xff": 0, "\xfe": 0, // above 0x10ffff
		"\xff\xff": 0, "ok\xffok\xff": 2, // the first of several
	} {
		if at := Bad([]byte(text)); at != want {
			t.Errorf("%q: %d, not %d", text, at, want)
		}
	}
	if Bad(nil) != -1 || Bad([]byte{}) != -1 {
		t.Error("empty bytes are a text")
	}
}

// P1.1: All tells places and signs up to Bad, and Count counts just these.
func TestAllAndCount(t *testing.T) {
	text := []byte("a\u00e4\n\u20ac\U0001f600\ufffd\x00")
	want := []sign{{0, 'a'}, {1, 0xe4}, {3, 10}, {4, 0x20ac}, {7, 0x1f600}, {11, 0xfffd}, {14, 0}}
	if l := told(text); !same(l, want) {
		t.Error(l)
	}
	if n := Count(text); n != 7 {
		t.Error(n)
	}
	for cut, n := range map[string]int{"ab\xc0\x80cd": 2, "\x80abc": 0, "\u20ac\xe2\x82": 1, "a\xed\xa0\x80b": 1} {
		b := []byte(cut)
		if Count(b) != n || len(told(b)) != n {
			t.Errorf("%q: %d, %v", cut, Count(b), told(b))
		}
	}
	for _, b := range [][]byte{nil, {}} {
		if Count(b) != 0 || told(b) != nil {
			t.Error("empty bytes have signs:", Count(b), told(b))
		}
	}
}

// P1.1, P1.2: each row of the bytes that count, held against the chapter's words.
func TestAllShortTexts(t *testing.T) {
	texts(func(b []byte) {
		want, bad := wantSigns(b)
		if at := Bad(b); at != bad {
			t.Fatalf("Bad of %x: %d, not %d", b, at, bad)
		}
		if l := told(b); !same(l, want) {
			t.Fatalf("All of %x: %v, not %v", b, l, want)
		}
		if n := Count(b); n != len(want) {
			t.Fatalf("Count of %x: %d, not %d", b, n, len(want))
		}
		for at := -1; at <= len(b)+1; at++ {
			line, column := Where(b, at)
			if wantLine, wantColumn := wantWhere(b, at); line != wantLine || column != wantColumn {
				t.Fatalf("Where %d of %x: %d, %d, not %d, %d", at, b, line, column, wantLine, wantColumn)
			}
		}
	})
}

// P1.1: an iterator can be left, and gone through again.
func TestAllIsLeftAndAgain(t *testing.T) {
	all := All([]byte("a\u20acb\xff"))
	for n := range 4 {
		var l []sign
		for at, r := range all {
			if len(l) == n {
				break
			}
			l = append(l, sign{at, r})
		}
		if !same(l, []sign{{0, 'a'}, {1, 0x20ac}, {4, 'b'}}[:n]) {
			t.Error(n, l)
		}
	}
}

// P1.2: lines, columns, and places that aren't in the text.
func TestWhere(t *testing.T) {
	for _, x := range []struct {
		text             string
		at, line, column int
	}{
		{"a\nb", 2, 2, 1}, // the chapter's
		{"a\nb", 0, 1, 1}, {"a\nb", 1, 1, 2}, {"a\nb", 3, 2, 2},
		{"x\n\u20acy", 5, 2, 2}, {"x\n\u20acy", 6, 2, 3},
		{"\u20acy", 1, 1, 2}, {"\u20acy", 2, 1, 2}, {"\u20ac", 1, 1, 2}, {"\u20ac", 2, 1, 2}, // within a sign: it began ahead
		{"\n\n\n", 0, 1, 1}, {"\n\n\n", 1, 2, 1}, {"\n\n\n", 3, 4, 1},
		{"a\r\nb", 2, 1, 3}, {"a\r\nb", 3, 2, 1}, // no other sign ends a line
		{"a\u2028\u0085b", 6, 1, 4},
		{"ab", 3, 1, 3}, {"ab\n", 99, 2, 1}, {"ab", math.MaxInt, 1, 3}, {"a\n\xe2\x82", math.MaxInt, 2, 3}, // behind the end
		{"ab", -1, 1, 1}, {"\n", -1, 1, 1}, {"\xff", math.MinInt, 1, 1}, // below 0
		{"\xff\n\xff", 1, 1, 2}, {"\xff\n\xff", 2, 2, 1}, {"\xff\n\xff", 3, 2, 2}, // bytes from Bad on
		{"a\xc0\x80\u20ac", 3, 1, 4}, {"a\xc0\x80\u20ac", 5, 1, 6}, {"a\xc0\x80\u20ac", 6, 1, 7},
		{"", 0, 1, 1}, {"", 1, 1, 1}, {"", -1, 1, 1},
	} {
		if line, column := Where([]byte(x.text), x.at); line != x.line || column != x.column {
			t.Errorf("%q, %d: %d, %d, not %d, %d", x.text, x.at, line, column, x.line, x.column)
		}
	}
	for _, at := range []int{math.MinInt, -1, 0, 1, math.MaxInt} {
		if line, column := Where(nil, at); line != 1 || column != 1 {
			t.Error("nil bytes:", at, line, column)
		}
	}
}

// P1.3: what is handed in isn't changed, what lies behind it isn't looked at.
func TestHandedInStays(t *testing.T) {
	whole := []byte("a\n\u20ac\xff\u20ac")
	for n := range len(whole) + 1 {
		room := bytes.Clone(whole)
		b := room[:n]
		want, bad := wantSigns(whole[:n:n])
		if at := Bad(b); at != bad {
			t.Error(n, at)
		}
		if !same(told(b), want) || Count(b) != len(want) {
			t.Error(n, told(b), Count(b))
		}
		Where(b, n)
		if !bytes.Equal(room, whole) {
			t.Fatalf("%d: changed to %x", n, room)
		}
	}
}

// P1.3: All doesn't keep what is handed in: what becomes of that isn't seen.
func TestAllKeepsNothing(t *testing.T) {
	b := []byte("a\u20acb")
	all := All(b)
	copy(b, "\xff\xff\xff\xff\xff")
	var l []sign
	for at, r := range all {
		l = append(l, sign{at, r})
	}
	if !same(l, []sign{{0, 'a'}, {1, 0x20ac}, {4, 'b'}}) {
		t.Error(l)
	}
}

// P1.3: each answer of Encode is memory of its own.
func TestEncodeAnswersNewMemory(t *testing.T) {
	for _, r := range []rune{0, 'a', 0xe4, 0x20ac, 0x1f600} {
		b, _ := Encode(r)
		b = b[:cap(b)]
		for i := range b {
			b[i] = '!'
		}
		if again, _ := Encode(r); !bytes.Equal(again, written(r)) {
			t.Errorf("%#x: %x", r, again)
		}
	}
}
