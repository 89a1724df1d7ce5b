package lexer

import (
	"bytes"
	"math/big"
	"regexp"
	"slices"
	"strings"
	"testing"
	"unicode/utf8"

	"azimuth/api"
)

// Short names, so that rows of tokens stay rows.
const (
	end   = api.TokEnd
	name  = api.TokName
	alias = api.TokAlias
	tag   = api.TokTag
	whole = api.TokInt
	float = api.TokFloat
	str   = api.TokString
	word  = api.TokWord
	sign  = api.TokSign
)

const allWords = "fun let rec in if then else case of end true false int bool str float dyn any none type"

const allSigns = "=> -> == .. +. -. *. /. <. ( ) { } [ ] , ; : . = | + - * / < ^"

// The chapter's words, said anew by patterns, so that the package isn't held against itself.
var (
	blankPattern  = regexp.MustCompile(`^(?:[ \t\n\r]|//[^\n]*)+`)
	floatPattern  = regexp.MustCompile(`^f'[0-9a-f]{16}`)
	digitsPattern = regexp.MustCompile(`^[0-9]+`)
	namePattern   = regexp.MustCompile(`^[a-z_][a-z_0-9]*`)
	aliasPattern  = regexp.MustCompile(`^[A-Z][A-Za-z0-9]*`)
	tagPattern    = regexp.MustCompile(`^#[a-z_][a-z_0-9]*`)
	stringPattern = regexp.MustCompile(`^"(?:[^"\\\x00-\x1f]|\\["\\n])*"`)
)

func isOneOf(list, s string) bool { return slices.Contains(strings.Fields(list), s) }

// wantToken: the kind and the size of what s begins with; 0: there is no token.
func wantToken(s string) (int, int) {
	if strings.HasPrefix(s, "f'") {
		return float, len(floatPattern.FindString(s))
	}
	if digits := digitsPattern.FindString(s); digits != "" {
		n, _ := new(big.Int).SetString(digits, 10)
		if !n.IsInt64() || n.String() != digits {
			return whole, 0
		}
		return whole, len(digits)
	}
	for kind, p := range map[int]*regexp.Regexp{name: namePattern, alias: aliasPattern, tag: tagPattern, str: stringPattern} {
		m := p.FindString(s)
		if m != "" && kind == name && isOneOf(allWords, m) {
			kind = word
		}
		if m != "" {
			return kind, len(m)
		}
	}
	size := 0
	for _, x := range strings.Fields(allSigns) {
		if strings.HasPrefix(s, x) {
			size = max(size, len(x))
		}
	}
	return sign, size
}

func wantText(kind int, s string) string {
	switch kind {
	case tag:
		return strings.TrimPrefix(s, "#")
	case str:
		return strings.NewReplacer(`\\`, "\\", `\"`, "\"", `\n`, "\n").Replace(s[1 : len(s)-1])
	}
	return s
}

func wantLex(b []byte) ([]api.Token, api.Diag) {
	if len(b) > 1048576 {
		return nil, api.Diag{Error: api.ErrLong}
	}
	for at := 0; at < len(b); {
		r, n := utf8.DecodeRune(b[at:])
		if r == utf8.RuneError && n == 1 {
			return nil, api.Diag{Error: api.ErrText, Pos: at}
		}
		at += n
	}
	var l []api.Token
	s, at := string(b), 0
	for {
		at += len(blankPattern.FindString(s[at:]))
		if at == len(s) {
			return append(l, api.Token{Kind: end, Pos: at}), api.Diag{}
		}
		kind, n := wantToken(s[at:])
		if n == 0 {
			return nil, api.Diag{Error: api.ErrToken, Pos: at}
		}
		l = append(l, api.Token{Kind: kind, Text: wantText(kind, s[at:at+n]), Pos: at})
		at += n
	}
}

// held holds what Lex tells of a text against the chapter's words.
func held(t *testing.T, b []byte) {
	t.Helper()
	want, wrong := wantLex(b)
	if l, d := Lex(b); !slices.Equal(l, want) || d != wrong {
		t.Fatalf("%q: %v, %v, not %v, %v", b, l, d, want, wrong)
	}
}

// rows goes through all rows of up to n of the signs.
func rows(signs string, n int, do func(b []byte)) {
	var row func(b []byte)
	row = func(b []byte) {
		do(b)
		if len(b) == n {
			return
		}
		for i := range len(signs) {
			row(append(b[:len(b):len(b)], signs[i]))
		}
	}
	row(nil)
}

// written is a token as it stands in a text.
func written(x api.Token) string {
	switch x.Kind {
	case tag:
		return "#" + x.Text
	case str:
		return Quote(x.Text)
	}
	return x.Text
}

// lexes looks whether a text has just these tokens, and behind them the end.
func lexes(t *testing.T, text string, want ...api.Token) {
	t.Helper()
	want = append(want, api.Token{Kind: end, Pos: len(text)})
	if l, d := Lex([]byte(text)); d != (api.Diag{}) || !slices.Equal(l, want) {
		t.Errorf("%q: %v, %v, not %v", text, l, d, want)
	}
}

// refuses looks whether a text is refused, with nothing beside the error and its place.
func refuses(t *testing.T, text string, e api.Errno, at int) {
	t.Helper()
	if l, d := Lex([]byte(text)); len(l) != 0 || d != (api.Diag{Error: e, Pos: at}) {
		t.Errorf("%q: %v, %v, not %d at %d", text, l, d, e, at)
	}
}

// P3.1: the chapter's example, and a text with a token of each kind.
func TestOrdinary(t *testing.T) {
	lexes(t, "x1=>#a", api.Token{Kind: name, Text: "x1", Pos: 0}, api.Token{Kind: sign, Text: "=>", Pos: 2}, api.Token{Kind: tag, Text: "a", Pos: 4})
	lexes(t, "type Ab = [#some int | ..];\n",
		api.Token{Kind: word, Text: "type", Pos: 0}, api.Token{Kind: alias, Text: "Ab", Pos: 5}, api.Token{Kind: sign, Text: "=", Pos: 8},
		api.Token{Kind: sign, Text: "[", Pos: 10}, api.Token{Kind: tag, Text: "some", Pos: 11}, api.Token{Kind: word, Text: "int", Pos: 17},
		api.Token{Kind: sign, Text: "|", Pos: 21}, api.Token{Kind: sign, Text: "..", Pos: 23}, api.Token{Kind: sign, Text: "]", Pos: 25}, api.Token{Kind: sign, Text: ";", Pos: 26})
	lexes(t, "f(x_1){a=12,b=\"\u20ac\\n\"}^f'4008000000000000// \u20ac\n.y",
		api.Token{Kind: name, Text: "f", Pos: 0}, api.Token{Kind: sign, Text: "(", Pos: 1}, api.Token{Kind: name, Text: "x_1", Pos: 2}, api.Token{Kind: sign, Text: ")", Pos: 5},
		api.Token{Kind: sign, Text: "{", Pos: 6}, api.Token{Kind: name, Text: "a", Pos: 7}, api.Token{Kind: sign, Text: "=", Pos: 8}, api.Token{Kind: whole, Text: "12", Pos: 9},
		api.Token{Kind: sign, Text: ",", Pos: 11}, api.Token{Kind: name, Text: "b", Pos: 12}, api.Token{Kind: sign, Text: "=", Pos: 13}, api.Token{Kind: str, Text: "\u20ac\n", Pos: 14},
		api.Token{Kind: sign, Text: "}", Pos: 21}, api.Token{Kind: sign, Text: "^", Pos: 22}, api.Token{Kind: float, Text: "f'4008000000000000", Pos: 23},
		api.Token{Kind: sign, Text: ".", Pos: 48}, api.Token{Kind: name, Text: "y", Pos: 49})
}

// P3.1: the end is told of each text, behind all blanks.
func TestEnd(t *testing.T) {
	for _, b := range [][]byte{nil, {}} {
		if l, d := Lex(b); d != (api.Diag{}) || !slices.Equal(l, []api.Token{{}}) {
			t.Error(l, d)
		}
	}
	for _, text := range []string{" ", "\t", "\n", "\r", " \t\n\r ", "//", "// a", "//\n", " // a\n\t// b\n ", "//a//b", "///", "//\"", "//\x01", "//\r\x0b", "//\u20ac"} {
		lexes(t, text)
	}
}

// P3.1: each blank stands between tokens, and makes two of one; no other sign does.
func TestBlanks(t *testing.T) {
	for _, blank := range []string{" ", "\t", "\n", "\r", "\r\n", "  ", "//\n", "// let # \x01 \" '\n", "//\r\n", "//a//\n", "\n//\n\n", "///\n", "// \u20ac\n//\n"} {
		lexes(t, blank+"a"+blank+"b"+blank, api.Token{Kind: name, Text: "a", Pos: len(blank)}, api.Token{Kind: name, Text: "b", Pos: 2*len(blank) + 1})
	}
	lexes(t, "a//b", api.Token{Kind: name, Text: "a"})
	lexes(t, "a//", api.Token{Kind: name, Text: "a"})
	lexes(t, "a//\rb", api.Token{Kind: name, Text: "a"}) // just a line feed ends a note
	lexes(t, "a//\u2028b", api.Token{Kind: name, Text: "a"})
	lexes(t, "a/ /b", api.Token{Kind: name, Text: "a", Pos: 0}, api.Token{Kind: sign, Text: "/", Pos: 1}, api.Token{Kind: sign, Text: "/", Pos: 3}, api.Token{Kind: name, Text: "b", Pos: 4})
	lexes(t, "a/", api.Token{Kind: name, Text: "a", Pos: 0}, api.Token{Kind: sign, Text: "/", Pos: 1})
	lexes(t, "a//.b\n/.//", api.Token{Kind: name, Text: "a", Pos: 0}, api.Token{Kind: sign, Text: "/.", Pos: 6})
	lexes(t, `"a//b"//c`, api.Token{Kind: str, Text: "a//b", Pos: 0})
	for _, other := range []string{"\x00", "\x07", "\x08", "\x0b", "\x0c", "\x0e", "\x1b", "\x1f", "\x7f", "\u0080", "\u0085", "\u00a0", "\u2003", "\u2028", "\u3000", "\ufeff"} {
		refuses(t, "a "+other+" b", api.ErrToken, 2)
		refuses(t, other, api.ErrToken, 0)
	}
}

// P3.1, P3.2: the words, by themselves and as parts of names.
func TestWords(t *testing.T) {
	l := strings.Fields(allWords)
	if len(l) != 20 {
		t.Fatal(len(l))
	}
	for _, x := range l {
		if !IsWord(x) || IsName(x) {
			t.Errorf("%s: IsWord %v, IsName %v", x, IsWord(x), IsName(x))
		}
		lexes(t, x, api.Token{Kind: word, Text: x})
		lexes(t, "#"+x, api.Token{Kind: tag, Text: x})
		lexes(t, x+"A", api.Token{Kind: word, Text: x, Pos: 0}, api.Token{Kind: alias, Text: "A", Pos: len(x)})
		for _, y := range []string{x + "0", x + "_", "_" + x, x + "z", "a" + x} {
			if IsWord(y) || !IsName(y) {
				t.Errorf("%s: IsWord %v, IsName %v", y, IsWord(y), IsName(y))
			}
			lexes(t, y, api.Token{Kind: name, Text: y})
			lexes(t, "#"+y, api.Token{Kind: tag, Text: y})
		}
		if short := x[:len(x)-1]; x != "int" { // what is left of that one is a word, too
			if IsWord(short) || !IsName(short) {
				t.Error(short)
			}
			lexes(t, short, api.Token{Kind: name, Text: short})
		}
		great := strings.ToUpper(x)
		if IsWord(great) || IsName(great) || IsWord(" "+x) || IsWord(x+" ") || IsWord("#"+x) || IsWord(x+"\x00") {
			t.Error(great)
		}
		lexes(t, great, api.Token{Kind: alias, Text: great})
	}
	for _, x := range []string{"", "a", "funlet", "fun let", "fn", "match", "with", "where", "string", "record", "\xff", "i\u0131"} {
		if IsWord(x) {
			t.Errorf("%q is a word", x)
		}
	}
}

// P3.2: IsName at each byte, and at rows of bytes.
func TestIsName(t *testing.T) {
	for _, x := range []string{"a", "z", "_", "__", "_0", "a0", "f", "f0", "x1_y2", "inn", "lets", "i", strings.Repeat("a", api.MaxText+1)} {
		if !IsName(x) {
			t.Errorf("%.20q isn't a name", x)
		}
	}
	for _, x := range []string{"", "A", "aB", "0", "0a", "a b", " a", "a ", "a\n", "a//", "#a", "a.b", "a-b", "a'", "f'", "f'3ff0000000000000", "\"a\"", "a\x00", "\u00e4", "a\u00e4", "\xff", "a\xff", "let", "type"} {
		if IsName(x) {
			t.Errorf("%q is a name", x)
		}
	}
	for c := range 256 {
		s := string([]byte{byte(c)})
		begins := c >= 'a' && c <= 'z' || c == '_'
		follows := begins || c >= '0' && c <= '9'
		if IsName(s) != begins || IsName("q"+s) != follows || IsName("q"+s+"q") != follows || IsName("_0"+s) != follows {
			t.Errorf("%q: %v, %v", s, IsName(s), IsName("q"+s))
		}
		if IsWord(s) {
			t.Errorf("%q is a word", s)
		}
	}
}

// P3.1: names, aliases and tags, each with every byte behind and ahead of it, and with one another.
func TestNamesAliasesTags(t *testing.T) {
	for _, x := range []string{"", "q", "_", "Q", "Qq", "#q", "#_", "#", "5", "0", "let", "#let", "q0", "Q0", "f", "=", "/", "\"", "\"q\"", "\\"} {
		for c := range 256 {
			s := string([]byte{byte(c)})
			for _, y := range []string{x + s, s + x, x + s + x, x + s + "1", x + s + "q Q"} {
				held(t, []byte(y))
			}
		}
	}
	lexes(t, "aA", api.Token{Kind: name, Text: "a", Pos: 0}, api.Token{Kind: alias, Text: "A", Pos: 1})
	lexes(t, "Aa_a", api.Token{Kind: alias, Text: "Aa", Pos: 0}, api.Token{Kind: name, Text: "_a", Pos: 2})
	lexes(t, "A0zZ9", api.Token{Kind: alias, Text: "A0zZ9"})
	lexes(t, "Let", api.Token{Kind: alias, Text: "Let"})
	lexes(t, "0a", api.Token{Kind: whole, Text: "0", Pos: 0}, api.Token{Kind: name, Text: "a", Pos: 1})
	lexes(t, "#a0_#b", api.Token{Kind: tag, Text: "a0_", Pos: 0}, api.Token{Kind: tag, Text: "b", Pos: 4})
	lexes(t, "#aA", api.Token{Kind: tag, Text: "a", Pos: 0}, api.Token{Kind: alias, Text: "A", Pos: 2})
	lexes(t, "#letlet", api.Token{Kind: tag, Text: "letlet", Pos: 0})
	lexes(t, "#let let", api.Token{Kind: tag, Text: "let", Pos: 0}, api.Token{Kind: word, Text: "let", Pos: 5})
	for _, x := range []string{"#", "##", "##a", "# a", "#A", "#0", "#0a", "#\"a\"", "#//a", "#'", "#\u00e4", "#\n"} {
		refuses(t, "b "+x, api.ErrToken, 2)
	}
	refuses(t, "#a\u00e4", api.ErrToken, 2)
	refuses(t, "a\u00e4", api.ErrToken, 1)
	refuses(t, "A\u00e4", api.ErrToken, 1)
}

// P3.1: ints at their edges.
func TestInts(t *testing.T) {
	for _, x := range []string{"0", "1", "9", "10", "99", "100", "1234567890", "999999999999999999", "9223372036854775806", "9223372036854775807"} {
		lexes(t, x, api.Token{Kind: whole, Text: x})
		lexes(t, "-"+x+"a", api.Token{Kind: sign, Text: "-", Pos: 0}, api.Token{Kind: whole, Text: x, Pos: 1}, api.Token{Kind: name, Text: "a", Pos: 1 + len(x)})
	}
	for _, x := range []string{
		"00", "01", "000", "0123", "00000000000000000000000", "09223372036854775807", // a nought ahead
		"9223372036854775808", "9223372036854775810", "10000000000000000000", "18446744073709551615", "18446744073709551616", "18446744073709551617",
		strings.Repeat("9", 400), "1" + strings.Repeat("0", 100000),
	} {
		refuses(t, x, api.ErrToken, 0)
		refuses(t, "a b "+x+" 'c", api.ErrToken, 4)
	}
	lexes(t, "0 0", api.Token{Kind: whole, Text: "0", Pos: 0}, api.Token{Kind: whole, Text: "0", Pos: 2})
	lexes(t, "1.0", api.Token{Kind: whole, Text: "1", Pos: 0}, api.Token{Kind: sign, Text: ".", Pos: 1}, api.Token{Kind: whole, Text: "0", Pos: 2})
	lexes(t, "1_0", api.Token{Kind: whole, Text: "1", Pos: 0}, api.Token{Kind: name, Text: "_0", Pos: 1})
	lexes(t, "0x1", api.Token{Kind: whole, Text: "0", Pos: 0}, api.Token{Kind: name, Text: "x1", Pos: 1})
	lexes(t, "1e9", api.Token{Kind: whole, Text: "1", Pos: 0}, api.Token{Kind: name, Text: "e9", Pos: 1})
	lexes(t, "+1", api.Token{Kind: sign, Text: "+", Pos: 0}, api.Token{Kind: whole, Text: "1", Pos: 1})
	refuses(t, "1.05", api.ErrToken, 2)
	refuses(t, "\u0661", api.ErrToken, 0) // a digit of another script
}

// P3.1: floats with 16 signs, with fewer and with more behind them.
func TestFloats(t *testing.T) {
	for _, x := range []string{
		"f'0000000000000000", "f'3ff0000000000000", "f'0123456789abcdef", "f'fedcba9876543210", "f'8000000000000000", "f'ffffffffffffffff",
		"f'7ff0000000000000", "f'fff0000000000000", "f'7ff8000000000001", "f'7ff8000000000000", "f'7ff0000000000001", "f'fff8000000000000", // endless ones, and NaN's bits, each as written
	} {
		lexes(t, x, api.Token{Kind: float, Text: x})
		lexes(t, " "+x+"0", api.Token{Kind: float, Text: x, Pos: 1}, api.Token{Kind: whole, Text: "0", Pos: 19})
		lexes(t, x+"ab", api.Token{Kind: float, Text: x, Pos: 0}, api.Token{Kind: name, Text: "ab", Pos: 18})
		lexes(t, x+"AB", api.Token{Kind: float, Text: x, Pos: 0}, api.Token{Kind: alias, Text: "AB", Pos: 18})
		lexes(t, x+x, api.Token{Kind: float, Text: x, Pos: 0}, api.Token{Kind: float, Text: x, Pos: 18})
		lexes(t, x+"."+x, api.Token{Kind: float, Text: x, Pos: 0}, api.Token{Kind: sign, Text: ".", Pos: 18}, api.Token{Kind: float, Text: x, Pos: 19})
		refuses(t, x+"01", api.ErrToken, 18)
		refuses(t, x+"'", api.ErrToken, 18)
		for n := 2; n < len(x); n++ {
			refuses(t, x[:n], api.ErrToken, 0)
			refuses(t, "a "+x[:n]+" "+x[n:], api.ErrToken, 2)
			refuses(t, "a "+x[:n]+"G"+x[n+1:], api.ErrToken, 2)
		}
	}
	for _, x := range []string{"f''", "f'3FF0000000000000", "f'3ff000000000000A", "f'7FF8000000000001", "f'\"", "f'//", "f' 3ff0000000000000", "f'3ff0_000000000000", "f'\u20ac\u20ac\u20ac\u20ac\u20ac\u20ac"} {
		refuses(t, x, api.ErrToken, 0)
		refuses(t, "\n"+x, api.ErrToken, 1)
	}
	lexes(t, "f", api.Token{Kind: name, Text: "f"})
	lexes(t, "f3ff0000000000000", api.Token{Kind: name, Text: "f3ff0000000000000"})
	lexes(t, "F", api.Token{Kind: alias, Text: "F"})
	refuses(t, "f '3ff0000000000000", api.ErrToken, 2)
	refuses(t, "ff'3ff0000000000000", api.ErrToken, 2) // the name ff, and behind it nothing that can be one
	refuses(t, "if'3ff0000000000000", api.ErrToken, 2)
	refuses(t, "_f'3ff0000000000000", api.ErrToken, 2)
	refuses(t, "0ff'3ff0000000000000", api.ErrToken, 3)
	refuses(t, "#f'3ff0000000000000", api.ErrToken, 2)
	refuses(t, "F'3ff0000000000000", api.ErrToken, 1)
	refuses(t, "'3ff0000000000000", api.ErrToken, 0)
	lexes(t, "0f'3ff0000000000000", api.Token{Kind: whole, Text: "0", Pos: 0}, api.Token{Kind: float, Text: "f'3ff0000000000000", Pos: 1})
	refuses(t, "Af'3ff0000000000000", api.ErrToken, 2)
}

// P3.1: strings that are right.
func TestStrings(t *testing.T) {
	for in, want := range map[string]string{
		``: "", `a`: "a", ` `: " ", `a b`: "a b", `//`: "//", `'`: "'", `#a`: "#a", `\\`: "\\", `\"`: "\"", `\n`: "\n",
		`\\n`: "\\n", `\\\n`: "\\\n", `\\\\`: "\\\\", `\"\"`: "\"\"", `\\\"`: "\\\"", `n`: "n", `nn\nn`: "nn\nn", `\n\n`: "\n\n",
		"\x7f": "\x7f", "\u00e4\u20ac\U0001f600": "\u00e4\u20ac\U0001f600", "\u0080\u0085\u2028\ufeff\ufffd": "\u0080\u0085\u2028\ufeff\ufffd",
		`f'3ff0000000000000`: "f'3ff0000000000000", `01`: "01",
	} {
		x := `"` + in + `"`
		lexes(t, x, api.Token{Kind: str, Text: want})
		lexes(t, "\t"+x+x, api.Token{Kind: str, Text: want, Pos: 1}, api.Token{Kind: str, Text: want, Pos: 1 + len(x)})
		lexes(t, "a"+x+"a", api.Token{Kind: name, Text: "a", Pos: 0}, api.Token{Kind: str, Text: want, Pos: 1}, api.Token{Kind: name, Text: "a", Pos: 1 + len(x)})
	}
}

// P3.1: strings that aren't right, refused where they begin.
func TestStringsWrong(t *testing.T) {
	for _, x := range []string{
		`"`, `"a`, `"\"`, `"\\\"`, `"\`, `"\\`, `"a\`, `"a\n`, "\"\n", "\"\n\"", "\"a\nb\"", "\"a//b\n", // without an end in their line
		"\"\\\n\"", "\"\\\x00\"", "\"\\\u20ac\"", `"\'"`, `"\N"`, `"\t"`, `"\r"`, `"\0"`, `"\x41"`, `"\u0041"`, `"\/"`, `"\ n"`, `"a\b"`, `"\\\a"`, // another sign behind a backslash
	} {
		refuses(t, x, api.ErrToken, 0)
		refuses(t, "aa "+x, api.ErrToken, 3)
		refuses(t, `"b"`+x, api.ErrToken, 3)
	}
	refuses(t, `"""`, api.ErrToken, 2) // a quote by itself ends the string ahead of it
	refuses(t, `"a"b"`, api.ErrToken, 4)
	refuses(t, `"\\""`, api.ErrToken, 4)
	for c := range 128 {
		s := string([]byte{byte(c)})
		switch {
		case c < 32 || c == '\\':
			refuses(t, ` "a`+s+`b"`, api.ErrToken, 1)
		case c != '"':
			lexes(t, `"a`+s+`b"`, api.Token{Kind: str, Text: "a" + s + "b"})
		}
		if c != '"' && c != '\\' && c != 'n' {
			refuses(t, ` "a\`+s+`b"`, api.ErrToken, 1)
		}
	}
}

// P3.1: each sign by itself, and of two that can be the longer one.
func TestSigns(t *testing.T) {
	l := strings.Fields(allSigns)
	if len(l) != 27 {
		t.Fatal(len(l))
	}
	for _, x := range l {
		lexes(t, x, api.Token{Kind: sign, Text: x})
		lexes(t, "a"+x+"B", api.Token{Kind: name, Text: "a", Pos: 0}, api.Token{Kind: sign, Text: x, Pos: 1}, api.Token{Kind: alias, Text: "B", Pos: 1 + len(x)})
		for _, y := range l {
			held(t, []byte(x+y))
			lexes(t, x+" "+y, api.Token{Kind: sign, Text: x, Pos: 0}, api.Token{Kind: sign, Text: y, Pos: len(x) + 1})
		}
	}
	for text, want := range map[string]string{
		"===": "== =", "====": "== ==", "=>=": "=> =", "==->": "== ->", "...": ".. .", "....": ".. ..",
		"+..": "+. .", "+.+": "+. +", "-.-": "-. -", "*.*": "*. *", "<.<": "<. <", "-->": "- ->", "->.": "-> .", "-..": "-. .", "/./.": "/. /.",
		"<=": "< =", "<==": "< ==", "<->": "< ->", "^.": "^ .", "=.": "= .", ":.": ": .", "|.": "| .", "*/.": "* /.", ").(": ") . (", "{}": "{ }", "[..]": "[ .. ]", "::": ": :", "||": "| |",
	} {
		var tokens []api.Token
		at := 0
		for _, x := range strings.Fields(want) {
			tokens = append(tokens, api.Token{Kind: sign, Text: x, Pos: at})
			at += len(x)
		}
		lexes(t, text, tokens...)
	}
	for _, x := range []string{"!", "$", "%", "&", "'", ">", "?", "@", "\\", "`", "~", ">=", ">>", "\u2192", "\u20ac"} {
		refuses(t, x, api.ErrToken, 0)
		refuses(t, "a "+x, api.ErrToken, 2)
	}
	refuses(t, "==>", api.ErrToken, 2)
	refuses(t, "-.>", api.ErrToken, 2)
	refuses(t, "->>", api.ErrToken, 2)
}

// P3.1: which error goes first, and where; nothing stands beside it.
func TestErrorsInOrder(t *testing.T) {
	refuses(t, "\xff", api.ErrText, 0)
	refuses(t, "a\xff", api.ErrText, 1)
	refuses(t, "a \xe2\x82", api.ErrText, 2)
	refuses(t, "! \xff", api.ErrText, 2)        // behind what is no token
	refuses(t, "01 ' \xc0\x80", api.ErrText, 5) // behind several
	refuses(t, "\xff !", api.ErrText, 0)        // ahead of it
	refuses(t, "// \xff", api.ErrText, 3)       // in a note
	refuses(t, "\"a\xed\xa0\x80\"", api.ErrText, 2)
	refuses(t, "\"a \xff", api.ErrText, 3)
	refuses(t, "\xff\xff", api.ErrText, 0)
	refuses(t, "f'\xf4\x90\x80\x80", api.ErrText, 2)
	refuses(t, "a ! ' 01", api.ErrToken, 2) // the first of several
	refuses(t, "01 !", api.ErrToken, 0)
	refuses(t, "a b c \" !", api.ErrToken, 6)
}

// P3.1: a text of just MaxText bytes, and of one more.
func TestMaxText(t *testing.T) {
	const most = 1 << 20
	if api.MaxText != most {
		t.Fatal(api.MaxText)
	}
	long := strings.Repeat("a", most)
	lexes(t, long, api.Token{Kind: name, Text: long})
	lexes(t, strings.Repeat(" ", most))
	lexes(t, "//"+strings.Repeat("\u20ac", (most-2)/3)+strings.Repeat("/", (most-2)%3))
	lexes(t, `"`+long[2:]+`"`, api.Token{Kind: str, Text: long[2:]})
	refuses(t, strings.Repeat(" ", most-1)+"!", api.ErrToken, most-1)
	refuses(t, strings.Repeat(" ", most-1)+"\xff", api.ErrText, most-1)
	refuses(t, strings.Repeat("1", most), api.ErrToken, 0)
	refuses(t, "!"+strings.Repeat("\xff", most-1), api.ErrText, 1)
	if l, d := Lex([]byte(strings.Repeat("=", most))); d.Error != api.OK || len(l) != most/2+1 || l[most/2-1] != (api.Token{Kind: sign, Text: "==", Pos: most - 2}) {
		t.Error(len(l), d)
	}
	for _, x := range []string{
		long + "a", strings.Repeat(" ", most+1), "//" + long, // texts with tokens, or without
		strings.Repeat("\xff", most+1), long + "\xff", "\xff" + long, // no texts
		strings.Repeat("!", most+1), "'" + long, long + "'", strings.Repeat("1", most+1), `"` + long, // where no token is
		"!" + long + "\xff", long + long,
	} {
		refuses(t, x, api.ErrLong, 0)
	}
}

// P3.1: rows of the bytes that count, held against the chapter's words.
func TestShortTexts(t *testing.T) {
	do := func(b []byte) { held(t, b) }
	rows("aAf'01#\"\\n/\n _.=>-<!\x01\xc3\xa4", 4, do)
	rows("\"\\n\n\x1f a", 6, do)
	rows("/.=->+*<|\n", 5, do)
	rows("inf'0_", 6, do)
}

// P3.1: every byte, and every two.
func TestEveryTwoBytes(t *testing.T) {
	for c := range 256 {
		held(t, []byte{byte(c)})
		for d := range 256 {
			held(t, []byte{byte(c), byte(d)})
		}
	}
}

// P3.2: tokens of strings, written out.
func TestQuote(t *testing.T) {
	for s, want := range map[string]string{
		"": `""`, "a": `"a"`, "a b": `"a b"`, "\"": `"\""`, "\\": `"\\"`, "\n": `"\n"`, "n": `"n"`, "\\n": `"\\n"`, "\\\"": `"\\\""`,
		"a\nb\"c\\d": `"a\nb\"c\\d"`, "\n\n": `"\n\n"`, "//": `"//"`, "'": `"'"`, "\u20ac\U0001f600": "\"\u20ac\U0001f600\"", "\ufffd": "\"\ufffd\"",
		"\t\r\x00\x1f\x7f": "\"\t\r\x00\x1f\x7f\"", "\xff\xc0\x80\xe2\x82": "\"\xff\xc0\x80\xe2\x82\"", "\xed\xa0\x80": "\"\xed\xa0\x80\"",
	} {
		if q := Quote(s); q != want {
			t.Errorf("%q: %q, not %q", s, q, want)
		}
	}
	for c := range 256 {
		s := string([]byte{byte(c)})
		want := map[string]string{"\"": `\"`, "\\": `\\`, "\n": `\n`}[s]
		if want == "" {
			want = s
		}
		if q := Quote("a" + s + s + "n"); q != `"a`+want+want+`n"` {
			t.Errorf("%q: %q", s, q)
		}
	}
}

// P3.2, P3.3: what is quoted is read, but for texts with other signs below 32, and what is no text.
func TestQuoteIsRead(t *testing.T) {
	rows("a\"\\n\n/ '\x7f", 5, func(b []byte) { lexes(t, Quote(string(b)), api.Token{Kind: str, Text: string(b)}) })
	for r := range rune(0x3000) {
		s := "x" + string(r)
		if r < 32 && r != '\n' {
			refuses(t, Quote(s), api.ErrToken, 0)
			continue
		}
		lexes(t, Quote(s), api.Token{Kind: str, Text: s})
	}
	refuses(t, Quote("ab\xff"), api.ErrText, 3)
	long := strings.Repeat("\"", api.MaxText/2-1)
	lexes(t, Quote(long), api.Token{Kind: str, Text: long})
}

// P3.3: each token, written, is what stands at its place, and that token again.
func TestWrittenAgain(t *testing.T) {
	look := func(b []byte) {
		l, d := Lex(b)
		if d.Error != api.OK {
			return
		}
		at := 0
		for _, x := range l {
			if blanks := string(b[at:x.Pos]); blankPattern.FindString(blanks) != blanks {
				t.Fatalf("%q: ahead of %v stands %q", b, x, blanks)
			}
			s := written(x)
			if !bytes.HasPrefix(b[x.Pos:], []byte(s)) {
				t.Fatalf("%q: %v isn't %q", b, x, s)
			}
			at = x.Pos + len(s)
			want := []api.Token{{Kind: x.Kind, Text: x.Text}, {Kind: end, Pos: len(s)}}
			if x.Kind == end {
				want = want[1:]
			}
			if again, d := Lex([]byte(s)); d.Error != api.OK || !slices.Equal(again, want) {
				t.Fatalf("%q: %v is then %v, %v", b, x, again, d)
			}
		}
		if at != len(b) {
			t.Fatalf("%q ends at %d", b, at)
		}
	}
	rows("aAf01#\"\\n/\n .=>-", 4, look)
	for _, text := range []string{
		"let x = \"a\\n\\\"\\\\\" // note\n in f'3ff0000000000000 #case <. 10", "f'7ff8000000000000 f'fff0000000000001", allWords, allSigns,
		"#" + strings.ReplaceAll(allWords, " ", " #"), "9223372036854775807 \"\u20ac\" A0b1 _9",
	} {
		look([]byte(text))
	}
}

// P3.3: what is handed in isn't changed, and what lies behind it isn't looked at.
func TestHandedInStays(t *testing.T) {
	full := []byte("let f'3ff0000000000000 #ab 12 \"a\\n\u20ac\" // x\n== Ab")
	for n := range len(full) + 1 {
		room := bytes.Clone(full)
		held(t, room[:n])
		if !bytes.Equal(room, full) {
			t.Fatalf("%d: changed to %q", n, room)
		}
	}
}

// P3.3: nothing that was handed in is kept, and no answer shares memory with another.
func TestAnswersAreNewMemory(t *testing.T) {
	text := "let f'3ff0000000000000 #ab 12 \"a\\n\" \"b\" == Ab x"
	b := []byte(text)
	l, _ := Lex(b)
	want, _ := wantLex([]byte(text))
	for i := range b {
		b[i] = '!'
	}
	if !slices.Equal(l, want) {
		t.Error("what becomes of the bytes is seen:", l)
	}
	other, _ := Lex([]byte(text))
	l = l[:cap(l)]
	for i := range l {
		l[i] = api.Token{Kind: -1, Text: "!", Pos: -1}
	}
	again, _ := Lex([]byte(text))
	if !slices.Equal(other, want) || !slices.Equal(again, want) {
		t.Error("what becomes of an answer is seen:", other, again)
	}
}
