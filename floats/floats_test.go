package floats

import (
	"fmt"
	"math"
	"math/big"
	"strings"
	"testing"

	"azimuth/api"
)

// The edges, by their bits.
const (
	minus     = 1 << 63
	leastTiny = 1                  // the least above 0
	mostTiny  = 0x000fffffffffffff // the greatest below the least normal one
	leastReal = 0x0010000000000000 // the least normal one
	mostReal  = 0x7fefffffffffffff // the greatest normal one
	endless   = 0x7ff0000000000000
	theNone   = 0x7ff8000000000001
	unit      = 0x3ff0000000000000 // 1
)

// otherNones are bits of NaN, quiet and signalling ones, of either sign.
var otherNones = []uint64{
	0x7ff0000000000001, 0x7ff7ffffffffffff, 0x7ff8000000000000, theNone, 0x7ff8000000000002, 0x7fffffffffffffff,
	0xfff0000000000001, 0xfff7ffffffffffff, 0xfff8000000000000, 0xfff8000000000001, 0xffffffffffffffff,
}

// some are bits of numbers around all edges, of either sign, and of NaN.
func some() []uint64 {
	plus := []uint64{
		0, leastTiny, 2, 3, 0x0000000012345678, mostTiny - 1, mostTiny, leastReal, leastReal + 1, 0x001fffffffffffff, 0x0020000000000000,
		0x1e60000000000000, 0x1e6fffffffffffff, 0x1e50000000000001, // products of two of these are about the least one
		0x3c90000000000000, 0x3ca0000000000000, 0x3ca0000000000001, 0x3cb0000000000000, // halves and quarters of 1's last bit
		0x3fb999999999999a, 0x3fc999999999999a, 0x3fd5555555555555, 0x3fe0000000000000, 0x3fefffffffffffff,
		unit, unit + 1, unit + 2, 0x3ff8000000000000, 0x4000000000000000, 0x4008000000000000, 0x401c000000000000,
		0x4330000000000000, 0x4330000000000001, 0x433fffffffffffff, 0x4340000000000000, 0x4340000000000001,
		0x5fe0000000000000, 0x5ff0000000000000, 0x5fefffffffffffff, 0x7c8fffffffffffff, 0x7c90000000000000, 0x7ca0000000000000,
		0x7fe0000000000000, mostReal - 1, mostReal, endless,
	}
	l := append([]uint64(nil), otherNones...)
	for _, b := range plus {
		l = append(l, b, b|minus)
	}
	return l
}

// parts says what bits are, from the standard's layout alone.
func parts(bits uint64) (negative bool, exponent int, rest uint64) {
	return bits&minus != 0, int(bits >> 52 & 0x7ff), bits & (1<<52 - 1)
}

func isNone(bits uint64) bool {
	_, exponent, rest := parts(bits)
	return exponent == 0x7ff && rest != 0
}

func isEndless(bits uint64) bool {
	_, exponent, rest := parts(bits)
	return exponent == 0x7ff && rest == 0
}

func isZero(bits uint64) bool { return bits&^minus == 0 }

// exact is the number that bits stand for; they are neither NaN nor endless.
func exact(bits uint64) *big.Rat {
	negative, exponent, rest := parts(bits)
	if exponent == 0 {
		exponent = 1
	} else {
		rest |= 1 << 52
	}
	n := new(big.Int).SetUint64(rest)
	r := new(big.Rat)
	if shift := exponent - 1075; shift >= 0 {
		r.SetInt(n.Lsh(n, uint(shift)))
	} else {
		r.SetFrac(n, new(big.Int).Lsh(big.NewInt(1), uint(-shift)))
	}
	if negative {
		r.Neg(r)
	}
	return r
}

// nearest are the bits of the float that is nearest to a number, ties to even; a 0 gets the sign.
func nearest(r *big.Rat, negative bool) uint64 {
	sign := uint64(0)
	if r.Sign() < 0 || r.Sign() == 0 && negative {
		sign = minus
	}
	if r.Sign() == 0 {
		return sign
	}
	size := new(big.Rat).Abs(r)
	// Among positive floats the bits rise as the numbers do: find the greatest that isn't above.
	low, high := uint64(0), uint64(endless)
	for high-low > 1 {
		middle := low + (high-low)/2
		if exact(middle).Cmp(size) <= 0 {
			low = middle
		} else {
			high = middle
		}
	}
	// For rounding, the one behind the greatest is where it would stand if there were no end.
	above := new(big.Rat).SetInt(new(big.Int).Lsh(big.NewInt(1), 1024))
	if high != endless {
		above = exact(high)
	}
	down := new(big.Rat).Sub(size, exact(low))
	up := above.Sub(above, size)
	switch c := down.Cmp(up); {
	case c < 0, c == 0 && low&1 == 0:
		return sign | low
	}
	return sign | high
}

func wantSum(a, b uint64) uint64 {
	switch {
	case isNone(a), isNone(b), isEndless(a) && isEndless(b) && a != b:
		return theNone
	case isEndless(a):
		return a
	case isEndless(b):
		return b
	}
	return nearest(new(big.Rat).Add(exact(a), exact(b)), isZero(a) && isZero(b) && a&b&minus != 0)
}

func wantProduct(a, b uint64) uint64 {
	sign := (a ^ b) & minus
	switch {
	case isNone(a), isNone(b), isEndless(a) && isZero(b), isZero(a) && isEndless(b):
		return theNone
	case isEndless(a), isEndless(b):
		return sign | endless
	}
	return nearest(new(big.Rat).Mul(exact(a), exact(b)), sign != 0)
}

func wantQuotient(a, b uint64) uint64 {
	sign := (a ^ b) & minus
	switch {
	case isNone(a), isNone(b), isEndless(a) && isEndless(b), isZero(a) && isZero(b):
		return theNone
	case isEndless(a), isZero(b):
		return sign | endless
	case isEndless(b):
		return sign
	}
	return nearest(new(big.Rat).Quo(exact(a), exact(b)), sign != 0)
}

// wantOrder: -1, 0 or 1; none of these if ok is false.
func wantOrder(a, b uint64) (order int, ok bool) {
	if isNone(a) || isNone(b) {
		return 0, false
	}
	rank := func(bits uint64) int {
		switch {
		case !isEndless(bits):
			return 0
		case bits&minus != 0:
			return -1
		}
		return 1
	}
	if rank(a) != 0 || rank(b) != 0 {
		return rank(a) - rank(b), true
	}
	return exact(a).Cmp(exact(b)), true
}

func wantKind(bits uint64) int {
	_, exponent, rest := parts(bits)
	switch {
	case isNone(bits):
		return 4
	case isEndless(bits):
		return 3
	case exponent > 0:
		return 2
	case rest > 0:
		return 1
	}
	return 0
}

func wantText(bits uint64) string {
	if isNone(bits) {
		bits = theNone
	}
	return fmt.Sprintf("f'%016x", bits)
}

// P2.1: all bits stay but those of a NaN.
func TestOf(t *testing.T) {
	for _, bits := range some() {
		want := Float(bits)
		if isNone(bits) {
			want = 0x7ff8000000000001
		}
		if f := Of(bits); f != want {
			t.Errorf("%#x: %#x", bits, uint64(f))
		}
	}
}

// P2.1: the four of all pairs, held against exact numbers; arguments come both through Of and bare.
func TestPairs(t *testing.T) {
	l := some()
	for _, a := range l {
		for _, b := range l {
			checkPair(t, a, b)
		}
	}
}

func checkPair(t *testing.T, a, b uint64) {
	t.Helper()
	opposite := b ^ minus
	for _, x := range []struct {
		name     string
		of, bare Float
		want     uint64
	}{
		{"Add", Of(a).Add(Of(b)), Float(a).Add(Float(b)), wantSum(a, b)},
		{"Sub", Of(a).Sub(Of(b)), Float(a).Sub(Float(b)), wantSum(a, opposite)},
		{"Mul", Of(a).Mul(Of(b)), Float(a).Mul(Float(b)), wantProduct(a, b)},
		{"Div", Of(a).Div(Of(b)), Float(a).Div(Float(b)), wantQuotient(a, b)},
	} {
		if x.of != Float(x.want) || x.bare != Float(x.want) {
			t.Errorf("%s of %#x, %#x: %#x, bare %#x, not %#x", x.name, a, b, uint64(x.of), uint64(x.bare), x.want)
		}
	}
	order, ok := wantOrder(a, b)
	for _, x := range []struct{ f, g Float }{{Of(a), Of(b)}, {Float(a), Float(b)}} {
		if is := x.f.Less(x.g); is != (ok && order < 0) {
			t.Errorf("Less of %#x, %#x: %v", a, b, is)
		}
		if is := x.f.Equal(x.g); is != (ok && order == 0) {
			t.Errorf("Equal of %#x, %#x: %v", a, b, is)
		}
	}
}

// P2.1: sums, products and quotients written out, so that they don't hang on what the test finds.
func TestWrittenOut(t *testing.T) {
	for _, x := range []struct {
		a    Float
		op   string
		b    Float
		want Float
	}{
		{0x3fb999999999999a, "+", 0x3fc999999999999a, 0x3fd3333333333334}, // the chapter's: 0.1, 0.2
		{unit, "+", 0x3ca0000000000000, unit},                             // a tie, down to the even one
		{unit + 1, "+", 0x3ca0000000000000, unit + 2},                     // a tie, up to the even one
		{unit, "+", 0x3ca0000000000001, unit + 1},                         // just above a tie
		{unit, "-", 0x3c90000000000000, unit},                             // a tie below 1
		{unit, "-", 0x3ca0000000000000, unit - 1},
		{mostReal, "+", 0x7c8fffffffffffff, mostReal}, // just below where the endless begins
		{mostReal, "+", 0x7c90000000000000, endless},  // a tie with it
		{mostReal, "+", mostReal, endless},
		{mostReal | minus, "-", mostReal, endless | minus},
		{unit, "-", unit, 0},
		{minus, "+", minus, minus},
		{minus, "+", 0, 0},
		{0, "-", 0, 0},
		{minus, "-", 0, minus},
		{endless, "-", endless, theNone},
		{endless, "+", endless | minus, theNone},
		{endless, "+", endless, endless},
		{leastReal, "-", leastTiny, mostTiny},
		{mostTiny, "+", leastTiny, leastReal},
		{leastTiny, "*", 0x3fe0000000000000, 0}, // half of the least one: a tie, to 0
		{3, "*", 0x3fe0000000000000, 2},         // half of three of it: a tie, up
		{leastTiny | minus, "*", 0x3fe0000000000000, minus},
		{leastReal, "*", 0x3fe0000000000000, 0x0008000000000000},
		{0, "*", unit | minus, minus},
		{0, "*", endless, theNone},
		{mostReal, "*", 0x4000000000000000, endless},
		{unit, "/", 0x4008000000000000, 0x3fd5555555555555},
		{unit, "/", 0, endless},
		{unit, "/", minus, endless | minus},
		{unit | minus, "/", 0, endless | minus},
		{unit | minus, "/", minus, endless},
		{endless, "/", 0, endless},
		{0, "/", 0, theNone},
		{minus, "/", 0, theNone},
		{0, "/", minus, theNone},
		{endless, "/", endless, theNone},
		{unit, "/", endless | minus, minus},
		{unit, "/", leastTiny, endless},
	} {
		got := map[string]func(Float) Float{"+": x.a.Add, "-": x.a.Sub, "*": x.a.Mul, "/": x.a.Div}[x.op](x.b)
		if got != x.want {
			t.Errorf("%s %s %s: %s, not %s", x.a.Text(), x.op, x.b.Text(), got.Text(), x.want.Text())
		}
	}
}

// P2.1: a product is rounded by itself, ahead of a sum.
func TestEachByItself(t *testing.T) {
	// (1 + e)(1 - e) is 1 - e*e, which rounds to 1; unrounded, the difference to 1 would stay.
	f := Float(unit + 1)
	g := Float(unit).Sub(f.Sub(unit))
	if d := f.Mul(g).Sub(unit); d != 0 {
		t.Error(d.Text())
	}
	if d := Float(unit | minus).Add(f.Mul(g)); d != 0 {
		t.Error(d.Text())
	}
}

// P2.1: Less and Equal at what the standard says of NaN, of 0 and of the endless ones.
func TestLessAndEqual(t *testing.T) {
	order := []Float{endless | minus, mostReal | minus, unit | minus, leastReal | minus, mostTiny | minus, leastTiny | minus, 0, leastTiny, mostTiny, leastReal, unit, mostReal, endless}
	for i, f := range order {
		for j, g := range order {
			if f.Less(g) != (i < j) || f.Equal(g) != (i == j) {
				t.Error(f.Text(), g.Text(), f.Less(g), f.Equal(g))
			}
		}
		for _, bits := range otherNones {
			n := Float(bits)
			if n.Less(f) || f.Less(n) || n.Equal(f) || f.Equal(n) || n.Equal(n) || n.Less(n) {
				t.Errorf("%#x and %s", bits, f.Text())
			}
		}
	}
	nought, other := Float(0), Float(minus)
	if !nought.Equal(other) || !other.Equal(nought) || nought.Less(other) || other.Less(nought) {
		t.Error("0 and -0 aren't equal")
	}
}

// P2.1: the kinds' numbers, and kinds at their edges, of either sign.
func TestKind(t *testing.T) {
	if Nought != 0 || Small != 1 || Usual != 2 || Endless != 3 || None != 4 {
		t.Error(Nought, Small, Usual, Endless, None)
	}
	for bits, kind := range map[uint64]int{
		0: Nought, leastTiny: Small, mostTiny: Small, leastReal: Usual, unit: Usual, mostReal: Usual,
		endless: Endless, endless + 1: None, theNone: None, minus - 1: None,
	} {
		if Float(bits).Kind() != kind || Float(bits|minus).Kind() != kind {
			t.Errorf("%#x: %d, %d", bits, Float(bits).Kind(), Float(bits|minus).Kind())
		}
	}
	for _, bits := range some() {
		if k := Float(bits).Kind(); k != wantKind(bits) || Of(bits).Kind() != k {
			t.Errorf("%#x: %d", bits, k)
		}
	}
}

// P2.2: texts written out.
func TestText(t *testing.T) {
	for bits, text := range map[Float]string{
		0: "f'0000000000000000", minus: "f'8000000000000000", unit: "f'3ff0000000000000",
		leastTiny: "f'0000000000000001", 0x0123456789abcdef: "f'0123456789abcdef", 0xfedcba9876543210: "f'fedcba9876543210",
		endless: "f'7ff0000000000000", endless | minus: "f'fff0000000000000",
	} {
		if s := bits.Text(); s != text {
			t.Errorf("%#x: %s", uint64(bits), s)
		}
	}
	for _, bits := range otherNones {
		if s := Float(bits).Text(); s != "f'7ff8000000000001" {
			t.Errorf("%#x: %s", bits, s)
		}
	}
}

// P2.2: each text is read again.
func TestTextIsRead(t *testing.T) {
	for _, bits := range some() {
		if s := Float(bits).Text(); s != wantText(bits) {
			t.Errorf("%#x: %s", bits, s)
		}
		if f, e := Parse(Of(bits).Text()); f != Of(bits) || e != api.OK {
			t.Errorf("%#x: %#x, %d", bits, uint64(f), e)
		}
		// The bits themselves, of a NaN too, by the test's own hexadecimal.
		if f, e := Parse(fmt.Sprintf("f'%016x", bits)); f != Of(bits) || e != api.OK {
			t.Errorf("f'%016x: %#x, %d", bits, uint64(f), e)
		}
	}
}

// P2.2: what is no text of a float.
func TestParseWrong(t *testing.T) {
	good := "f'123456789abcdef0" // far from any NaN: another digit doesn't make it one
	if f, e := Parse(good); f != 0x123456789abcdef0 || e != api.OK {
		t.Fatal(f, e)
	}
	wrong := []string{
		"", "f", "f'", "'", "f'0", "f'00", "f'000000000000000", "f'00000000000000000", // too short, too long
		"f'000000000000000\n", " f'0000000000000000", "f'0000000000000000 ", "f'0000000000000000\x00",
		"3ff0000000000000", "'3ff0000000000000", "f3ff0000000000000", "f'3ff000000000000", "003ff0000000000000", // without f, or the apostrophe
		"F'3ff0000000000000", "g'3ff0000000000000", "f\"3ff0000000000000", "f`3ff0000000000000", "'f3ff0000000000000",
		"f''3ff000000000000", "ff'3ff000000000000", "f'0x3ff00000000000", "f'3ff0_0000_0000_00", "f'+3ff00000000000a", "f'-3ff00000000000a",
		"f'3FF0000000000000", "f'7FF8000000000001", "f'3ff00000000000AB", // capital letters
		"1.5", "0x1p-2", "NaN", "+Inf", "f'3ff000000000000.", "f'\xff\xff\xff\xff\xff\xff\xff\xff\xff\xff\xff\xff\xff\xff\xff\xff",
		"f'\u0661\u0661\u0661\u0661\u0661\u0661\u0661\u0661", strings.Repeat("f'3ff0000000000000", 2), strings.Repeat("f", 18),
	}
	for _, s := range wrong {
		if f, e := Parse(s); f != 0 || e != api.ErrForm {
			t.Errorf("%q: %#x, %d", s, uint64(f), e)
		}
	}
	for at := range good { // each byte that may stand at each place, and each that may not
		for c := range 256 {
			s := good[:at] + string([]byte{byte(c)}) + good[at+1:]
			fits := at >= 2 && strings.ContainsRune("0123456789abcdef", rune(c)) || at < 2 && good[at] == byte(c)
			if f, e := Parse(s); (e == api.OK) != fits || !fits && (e != api.ErrForm || f != 0) || fits && f.Text() != s {
				t.Errorf("%q: %#x, %d", s, uint64(f), e)
			}
		}
	}
	for n := range 40 { // each length
		if f, e := Parse("f'" + strings.Repeat("1", n)); (e == api.OK) != (n == 16) || n != 16 && (f != 0 || e != api.ErrForm) {
			t.Errorf("%d: %#x, %d", n, uint64(f), e)
		}
	}
}

// P2.2: the nearest float of numbers, at the ends, and where not each number has one.
func TestWhole(t *testing.T) {
	for n, want := range map[int64]Float{
		0: 0, 1: unit, -1: unit | minus, 2: 0x4000000000000000, 3: 0x4008000000000000, -7: 0xc01c000000000000,
		1<<53 - 1: 0x433fffffffffffff, 1 << 53: 0x4340000000000000,
		1<<53 + 1: 0x4340000000000000, 1<<53 + 2: 0x4340000000000001, 1<<53 + 3: 0x4340000000000002, // ties to even
		-1<<53 - 1: 0xc340000000000000, -1<<53 - 3: 0xc340000000000002,
		1<<62 + 1: 0x43d0000000000000, 1<<62 + 1<<9: 0x43d0000000000000, 1<<62 + 1<<9 + 1: 0x43d0000000000001,
		math.MaxInt64: 0x43e0000000000000, math.MaxInt64 - 511: 0x43e0000000000000, math.MaxInt64 - 512: 0x43dfffffffffffff,
		math.MinInt64: 0xc3e0000000000000, math.MinInt64 + 1: 0xc3e0000000000000, math.MinInt64 + 1024: 0xc3dfffffffffffff,
	} {
		if f := Whole(n); f != want {
			t.Errorf("%d: %s, not %s", n, f.Text(), want.Text())
		}
	}
	for shift := range 64 {
		for _, add := range []int64{-3, -2, -1, 0, 1, 2, 3} {
			n := int64(uint64(1)<<shift) + add
			if f, want := Whole(n), nearest(new(big.Rat).SetInt64(n), false); f != Float(want) {
				t.Errorf("%d: %s, not %#x", n, f.Text(), want)
			}
		}
	}
}

// P2.2: numbers without what is behind the point, at the ends of int64, and what has none.
func TestCut(t *testing.T) {
	for f, want := range map[Float]int64{
		0: 0, minus: 0, leastTiny: 0, leastTiny | minus: 0, mostTiny: 0, leastReal | minus: 0,
		0x3fe0000000000000: 0, 0x3fefffffffffffff: 0, 0xbfefffffffffffff: 0, unit: 1, unit | minus: -1,
		0x3fffffffffffffff: 1, 0xbfffffffffffffff: -1, 0x4004000000000000: 2, 0xc004000000000000: -2, 0x400c000000000000: 3, 0xc00c000000000000: -3, // 2.5, 3.5
		0x432fffffffffffff: 1<<52 - 1, 0xc32fffffffffffff: -(1<<52 - 1), 0x433fffffffffffff: 1<<53 - 1,
		0x43dfffffffffffff: 1<<63 - 1024, 0xc3dfffffffffffff: -(1<<63 - 1024), 0xc3e0000000000000: math.MinInt64, // just within
	} {
		if n, e := f.Cut(); n != want || e != api.OK {
			t.Errorf("%s: %d, %d, not %d", f.Text(), n, e, want)
		}
	}
	beyond := []Float{0x43e0000000000000, 0x43e0000000000001, 0xc3e0000000000001, 0x43f0000000000000, 0xc3f0000000000000, mostReal, mostReal | minus, endless, endless | minus}
	for _, bits := range otherNones {
		beyond = append(beyond, Float(bits))
	}
	for _, f := range beyond {
		if n, e := f.Cut(); n != 0 || e != api.ErrArg {
			t.Errorf("%#x: %d, %d", uint64(f), n, e)
		}
	}
}

// P2.2: all floats that are at hand, held against exact numbers.
func TestCutExact(t *testing.T) {
	for _, bits := range some() {
		want, fits := int64(0), false
		if !isNone(bits) && !isEndless(bits) {
			r := exact(bits)
			n := new(big.Int).Quo(r.Num(), r.Denom()) // Quo cuts toward 0
			if fits = n.IsInt64(); fits {
				want = n.Int64()
			}
		}
		if n, e := Float(bits).Cut(); n != want || (e == api.OK) != fits || !fits && e != api.ErrArg {
			t.Errorf("%#x: %d, %d, not %d", bits, n, e, want)
		}
	}
}
