package graph_test

import (
	"regexp"
	"strconv"
	"strings"
	"testing"

	"azimuth/api"
	"azimuth/graph"
)

var (
	headPattern = regexp.MustCompile(`^(?:[ibsfd*!]|>[0-9]+,[0-9]+,|[{\[\]](?:[a-z0-9_]+:[0-9]+,)*);`)
	kidPattern  = regexp.MustCompile(`(?:([a-z0-9_]+):)?([0-9]+),`)
)

// parsedAnew: the graph of bytes that are a normal graph's, head by head; false: they are none's.
func parsedAnew(text string) (api.Graph, bool) {
	var g api.Graph
	for rest := text; rest != ""; {
		head := headPattern.FindString(rest)
		if head == "" {
			return api.Graph{}, false
		}
		rest = rest[len(head):]
		h := api.Head{Kind: strings.Index("ibsfd*!>{[", head[:1])}
		if head[0] == ']' {
			h.Kind, h.Open = api.TVariant, true
		}
		for _, kid := range kidPattern.FindAllStringSubmatch(head[1:], -1) {
			n, err := strconv.Atoi(kid[2])
			if err != nil {
				return api.Graph{}, false
			}
			h.Kids = append(h.Kids, n)
			if kid[1] != "" {
				h.Names = append(h.Names, kid[1])
			}
		}
		g.L = append(g.L, h)
	}
	if !mayBeAnew(g) || bytesAnew(g) != text {
		return api.Graph{}, false
	}
	return g, true
}

// bytesAsAnew looks whether bytes are parsed as the words say anew, and tells whether they are a graph's.
func bytesAsAnew(t *testing.T, text string) bool {
	t.Helper()
	want, ok := parsedAnew(text)
	g, e := graph.Parse([]byte(text))
	if ok != (e == api.OK) || !ok && e != api.ErrForm || !equal(g, want) {
		t.Errorf("%.200q: Parse: %v, %d; it is %v, %v", text, short(g), e, short(want), ok)
	}
	if b, f := graph.Bytes(g); e == api.OK && (f != api.OK || string(b) != text) {
		t.Errorf("%.200q: Bytes of what is parsed: %.200q, %d", text, b, f)
	}
	return ok
}

// goodBytes are normal graphs', of each kind, with numbers of one digit and of two, and rounds.
func goodBytes() []string {
	return []string{
		"i;", "b;", "s;", "f;", "d;", "*;", "!;", "{;", "[;", "];", ">0,0,;", ">1,1,;i;", ">1,2,;b;i;", ">0,1,;*;", ">1,0,;!;",
		"{a:0,;", "[a:1,;d;", "]in:1,;f;", "{a:1,b:2,;]c:3,;i;{;", "{a:1,ab:2,;[a:0,b:1,;s;",
		">1,2,;>3,4,;>4,3,;i;b;", "{a:1,b:1,c:0,;i;", "[a:1,type:2,;];[;",
		"{a:1,b:2,c:3,d:4,e:5,f:6,g:7,h:8,i:9,j:10,k:11,;i;b;s;f;d;*;!;{;[;];>10,0,;",
	}
}

var beforeColon = regexp.MustCompile(`[;,{\[\]]([^;,:{\[\]]*):`)

// oddNames: stands something ahead of a colon that is no name? (TestNames tells of those.)
func oddNames(text string) bool {
	for _, m := range beforeColon.FindAllStringSubmatch(text, -1) {
		if !namePattern.MatchString(m[1]) || wordPattern.MatchString(m[1]) {
			return true
		}
	}
	return false
}

// P8.2: bytes of normal graphs, and what comes of them by one byte less, another one, or one more.
func TestBytesChanged(t *testing.T) {
	good, wrong := 0, 0
	look := func(text string) {
		if oddNames(text) {
			return
		}
		if bytesAsAnew(t, text) {
			good++
		} else {
			wrong++
		}
	}
	const signs = "ibsfd*!>{[];:,0123459+-_ax A\x00\xff}"
	for _, text := range goodBytes() {
		if !bytesAsAnew(t, text) {
			t.Errorf("the test's own bytes are wrong: %q", text)
		}
		for i := range len(text) + 1 {
			look(text[:i])
			for _, c := range []byte(signs) {
				look(text[:i] + string([]byte{c}) + text[i:])
				if i < len(text) {
					look(text[:i] + string([]byte{c}) + text[i+1:])
				}
			}
			if i < len(text) {
				look(text[:i] + text[i+1:])
				look(text[i:])
				look(text[:i] + text[i:i+1] + text[i:])
			}
			if i+1 < len(text) {
				look(text[:i] + text[i+1:i+2] + text[i:i+1] + text[i+2:])
			}
		}
		for _, other := range goodBytes() {
			look(text + other)
		}
	}
	if good < 100 || wrong < 10000 {
		t.Error(good, wrong)
	}
}

// P8.2: all short rows of the signs that count.
func TestShortBytes(t *testing.T) {
	const signs = "i>{];:,01a"
	row := []string{""}
	for range 5 {
		var next []string
		for _, text := range row {
			bytesAsAnew(t, text)
			for i := range len(signs) {
				next = append(next, text+signs[i:i+1])
			}
		}
		row = next
	}
}

// P8.2: bytes that are none, cut off, with something behind, with a zero ahead, of graphs that aren't normal, or may not be.
func TestWrongBytes(t *testing.T) {
	for what, text := range map[string]string{
		"nothing":                        "",
		"no semicolon":                   "i",
		"a semicolon alone":              ";",
		"another sign":                   "x;",
		"a blank ahead":                  " i;",
		"a blank behind":                 "i; ",
		"a line feed behind":             "i;\n",
		"a semicolon more":               "i;;",
		"cut off in a head":              ">1,1,",
		"cut off behind a head":          ">1,1,;",
		"cut off in the last head":       ">1,1,;i",
		"cut off in a number":            "{a:1",
		"cut off ahead of a number":      "{a:",
		"cut off in a name":              "{a",
		"something behind":               ">1,1,;i;b;",
		"the same once more":             "i;i;",
		"no comma":                       ">1,1;i;",
		"a comma alone":                  ">1,,;i;",
		"a comma ahead":                  ">,1,1,;i;",
		"a kid of a kind without":        "i0,;",
		"one kid of a function":          ">0,;",
		"three kids of a function":       ">0,0,0,;",
		"names in a function":            ">a:0,b:0,;",
		"one name in a function":         ">a:0,0,;",
		"no name in a record":            "{0,;",
		"two colons":                     "{a::0,;",
		"a name behind a name":           "{a:b:0,;",
		"no number":                      "{a:,;",
		"a name where a number stands":   "{a:a,;",
		"a zero ahead":                   "{a:00,;",
		"a zero ahead of 1":              ">01,1,;i;",
		"a zero ahead of a later one":    ">1,01,;i;",
		"a plus":                         ">+1,1,;i;",
		"a minus":                        ">-0,0,;",
		"below 0":                        ">-1,0,;",
		"a number of letters":            ">0x1,0x1,;i;",
		"a line through":                 ">1_0,1,;i;",
		"a great number":                 ">18446744073709551617,18446744073709551617,;i;",
		"another great one":              ">4294967297,4294967297,;i;",
		"one beyond all":                 ">99999999999999999999999999999999999999,0,;",
		"a kid that isn't there":         ">1,1,;",
		"a kid just behind":              ">1,2,;i;",
		"names that fall":                "{b:0,a:0,;",
		"a name twice":                   "{a:0,a:0,;",
		"the root isn't the first":       "i;>0,0,;",
		"numbers in another order":       ">2,1,;i;b;",
		"numbers kid by kid":             ">1,4,;>2,3,;i;b;>3,2,;",
		"two that are alike":             ">1,2,;i;i;",
		"a round of two":                 ">1,1,;>0,0,;",
		"a round behind what is alike":   "{a:1,;{a:1,;",
		"two alike far within":           "{a:1,b:2,;{a:3,;{a:4,;i;i;",
		"a head that isn't met":          "{a:0,;i;",
		"heads that aren't met":          "i;b;",
		"a closing bracket":              "{};",
		"both of a variant's":            "[];",
		"heads between semicolons alone": ";;;",
		"a sign twice":                   "ii;",
		"two signs":                      "{[;",
	} {
		if g, e := graph.Parse([]byte(text)); e != api.ErrForm || !equal(g, api.Graph{}) {
			t.Errorf("%s: %q: %v, %d", what, text, g, e)
		}
		bytesAsAnew(t, text)
	}
	if g, e := graph.Parse(nil); e != api.ErrForm || !equal(g, api.Graph{}) {
		t.Error(g, e)
	}
}

// P8.2: of as many heads as may be, and of one more.
func TestMostBytes(t *testing.T) {
	row := func(n int, end string) string {
		var b strings.Builder
		for i := 1; i < n; i++ {
			b.WriteString("{a:" + strconv.Itoa(i) + ",;")
		}
		return b.String() + end
	}
	for _, n := range []int{1, 2, 4095, 4096} {
		g, e := graph.Parse([]byte(row(n, "i;")))
		if e != api.OK || len(g.L) != n || g.L[n-1].Kind != api.TInt {
			t.Errorf("%d: %s, %d", n, short(g), e)
		}
		for _, end := range []string{"", "i", "i;;", "{a:0,", "i;i;", "{a:" + strconv.Itoa(n) + ",;"} {
			if g, e := graph.Parse([]byte(row(n, end))); e != api.ErrForm || !equal(g, api.Graph{}) {
				t.Errorf("%d, at the end %q: %s, %d", n, end, short(g), e)
			}
		}
	}
	for _, n := range []int{4097, 4098, 8192, 100000} {
		if g, e := graph.Parse([]byte(row(n, "i;"))); e != api.ErrForm || !equal(g, api.Graph{}) {
			t.Errorf("%d: %s, %d", n, short(g), e)
		}
	}
}
