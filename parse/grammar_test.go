package parse

import (
	"math/rand"
	"slices"
	"strings"
	"testing"

	"azimuth/api"
)

// grammar is the chapter's own, by which rows of tokens are held against it without a parser of its shape.
const grammar = `
text    = { "type" ALIAS "=" type ";" } term END
term    = "fun" NAME "->" term
        | "let" [ "rec" ] NAME "=" term "in" term
        | "if" term "then" term "else" term
        | "case" term "of" { "|" TAG NAME "->" term } [ "|" "else" "->" term ] "end"
        | compare
compare = join [ ( "==" | "<" | "<." ) join ]
join    = sum { "^" sum }
sum     = product { ( "+" | "-" | "+." | "-." ) product }
product = apply { ( "*" | "/" | "*." | "/." ) apply }
apply   = unit { unit }
unit    = TAG post | post
post    = atom { "." NAME }
atom    = NAME | INT | FLOAT | STRING | "true" | "false"
        | "(" term ")" | "(" term ":" type ")" | "(" term ":" type "=>" type ")"
        | "{" [ NAME "=" term { "," NAME "=" term } ] "}"
type    = simple [ "->" type ]
simple  = "int" | "bool" | "str" | "float" | "dyn" | "any" | "none" | ALIAS | "(" type ")"
        | "{" [ NAME ":" type { "," NAME ":" type } ] "}"
        | "[" [ item { "|" item } [ "|" ".." ] | ".." ] "]"
item    = TAG simple
whole   = type END
`

// rules are plain: each rule's choices, rows of rules and of tokens. (A bracket of the grammar is a rule by itself.)
type rules map[string][][]string

// reader reads the grammar's text.
type reader struct {
	words []string
	rules rules
}

func readRules() rules {
	r := reader{rules: rules{}}
	var name string
	flush := func() {
		if name != "" {
			r.rules[name] = r.choices("")
		}
	}
	for _, line := range strings.Split(grammar, "\n") {
		words := strings.Fields(line)
		if len(words) > 1 && words[1] == "=" {
			flush()
			name, words = words[0], words[2:]
		}
		r.words = append(r.words, words...)
	}
	flush()
	return r.rules
}

// choices reads up to a bracket, which is read too.
func (r *reader) choices(until string) [][]string {
	l := [][]string{nil}
	for len(r.words) > 0 {
		w := r.words[0]
		r.words = r.words[1:]
		last := len(l) - 1
		switch w {
		case until:
			return l
		case "|":
			l = append(l, nil)
		case "{":
			l[last] = append(l[last], r.inner("}", true, true))
		case "[":
			l[last] = append(l[last], r.inner("]", true, false))
		case "(":
			l[last] = append(l[last], r.inner(")", false, false))
		default:
			l[last] = append(l[last], w)
		}
	}
	return l
}

// inner makes a rule of a bracket, which may be left out, and may be there again.
func (r *reader) inner(until string, out, again bool) string {
	l := r.choices(until)
	name := "inner " + strings.Repeat("i", len(r.rules))
	if again {
		for i := range l {
			l[i] = append(l[i], name)
		}
	}
	if out {
		l = append(l, nil)
	}
	r.rules[name] = l
	return name
}

// dotted is a choice of a rule, of which a part was read, and behind how many tokens it began.
type dotted struct {
	rule         string
	choice, read int
	from         int
}

// reading holds, for each number of tokens that were read, what is being read there.
type reading struct {
	rules rules
	sets  [][]dotted
}

func startReading(r rules, rule string) *reading {
	x := &reading{rules: r}
	var set []dotted
	for i := range r[rule] {
		set = append(set, dotted{rule: rule, choice: i})
	}
	x.close(set)
	return x
}

// close adds a set, with all that may begin or end in it.
func (x *reading) close(set []dotted) {
	here := len(x.sets)
	in := map[dotted]bool{}
	for _, d := range set {
		in[d] = true
	}
	add := func(d dotted) {
		if !in[d] {
			in[d] = true
			set = append(set, d)
		}
	}
	for before := -1; before != len(set); { // again, for rules that may be empty
		before = len(set)
		for i := 0; i < len(set); i++ {
			d := set[i]
			row := x.rules[d.rule][d.choice]
			if d.read < len(row) {
				for c := range x.rules[row[d.read]] {
					add(dotted{rule: row[d.read], choice: c, from: here})
				}
				continue
			}
			waiting := set
			if d.from < here {
				waiting = x.sets[d.from]
			}
			for _, w := range waiting {
				if r := x.rules[w.rule][w.choice]; w.read < len(r) && r[w.read] == d.rule {
					w.read++
					add(w)
				}
			}
		}
	}
	x.sets = append(x.sets, set)
}

// read reads a token, as the grammar names it; false: it can't stand there.
func (x *reading) read(token string) bool {
	var set []dotted
	for _, d := range x.sets[len(x.sets)-1] {
		if row := x.rules[d.rule][d.choice]; d.read < len(row) && row[d.read] == token {
			d.read++
			set = append(set, d)
		}
	}
	if len(set) == 0 {
		return false
	}
	x.close(set)
	return true
}

// back forgets the last token.
func (x *reading) back() { x.sets = x.sets[:len(x.sets)-1] }

// allTokens are the grammar's tokens but the end, and what else the lexer takes.
func allTokens() []string {
	l := strings.Fields("NAME ALIAS TAG INT FLOAT STRING")
	for _, w := range strings.Fields("fun let rec in if then else case of end true false int bool str float dyn any none type " +
		"=> -> == .. +. -. *. /. <. ( ) { } [ ] , ; : . = | + - * / < ^") {
		l = append(l, `"`+w+`"`)
	}
	return l
}

// writtenToken is one of a token's kind; of names and tags there are some.
func writtenToken(token string, which int) string {
	few := string("abc"[which%3])
	switch token {
	case "NAME":
		return few
	case "ALIAS":
		return strings.ToUpper(few)
	case "TAG":
		return []string{"#a", "#b", "#fun"}[which%3]
	case "INT":
		return "12"
	case "FLOAT":
		return "f'3ff0000000000000"
	case "STRING":
		return []string{`"("`, `"fun"`, `""`}[which%3]
	}
	return strings.Trim(token, `"`)
}

// twice: the first of the tokens that is a name or a tag that its owner has already; -1: there is none. What stands ahead of any of them can stand there, so brackets tell the owner.
func twice(tokens []string, texts []string) int {
	var owners []map[string]bool
	for i, x := range tokens {
		behind := ""
		if i > 0 {
			behind = tokens[i-1]
		}
		switch {
		case slices.Contains([]string{`"("`, `"{"`, `"["`, `"case"`}, x):
			owners = append(owners, map[string]bool{})
		case slices.Contains([]string{`")"`, `"}"`, `"]"`, `"end"`}, x):
			if len(owners) == 0 {
				return -1
			}
			owners = owners[:len(owners)-1]
		case x == "NAME" && (behind == `"{"` || behind == `","`), x == "TAG" && (behind == `"["` || behind == `"|"`):
			if len(owners) == 0 {
				return -1
			}
			own := owners[len(owners)-1]
			if own[texts[i]] {
				return i
			}
			own[texts[i]] = true
		}
	}
	return -1
}

// row is tokens, with how they are written.
type row struct {
	tokens, texts []string
}

func (r row) with(token string, which int) row {
	return row{append(slices.Clip(r.tokens), token), append(slices.Clip(r.texts), writtenToken(token, which))}
}

// text: the row's, and each token's place; the last one is the end's.
func (r row) text() (string, []int) {
	var places []int
	at := 0
	for _, x := range r.texts {
		places = append(places, at)
		at += len(x) + 1
	}
	s := strings.Join(r.texts, " ")
	return s, append(places, len(s))
}

// wants: what is wrong with a row of which all tokens but those from bad on can stand.
func (r row) wants(bad int) api.Diag {
	_, places := r.text()
	if i := twice(r.tokens, r.texts); i >= 0 && i < bad {
		return api.Diag{Error: api.ErrTwice, Pos: places[i]}
	}
	if bad <= len(r.tokens) {
		return api.Diag{Error: api.ErrParse, Pos: places[bad]}
	}
	return api.Diag{}
}

// doors are the two functions, with the grammar's rule for each.
var doors = []struct {
	name, rule string
	parse      func(b []byte) (api.Tree, api.Diag)
}{
	{"Text", "text", Text},
	{"Type", "whole", Type},
}

// tries holds a row, which x has read, against the grammar, by itself and with each token behind it; it answers those that can stand there.
func tries(t *testing.T, x *reading, r row, parse func(b []byte) (api.Tree, api.Diag)) []string {
	t.Helper()
	bad := len(r.tokens)
	if x.read("END") {
		bad++
		x.back()
	}
	asks(t, r, bad, parse)
	var may []string
	for i, token := range allTokens() {
		if x.read(token) {
			may = append(may, token)
			x.back()
			continue
		}
		asks(t, r.with(token, i), len(r.tokens), parse)
	}
	return may
}

func asks(t *testing.T, r row, bad int, parse func(b []byte) (api.Tree, api.Diag)) {
	t.Helper()
	text, _ := r.text()
	if x, d := parse([]byte(text)); d != r.wants(bad) || (d.Error == api.OK) != (len(x.Nodes)+len(x.Types) > 0) {
		t.Fatalf("%q: %v, not %v", text, d, r.wants(bad))
	}
}

// P5.1: all rows of few tokens that can stand, and each with every token behind it.
func TestAllRows(t *testing.T) {
	r := readRules()
	for i, door := range doors {
		x := startReading(r, door.rule)
		var goOn func(r row)
		goOn = func(r row) {
			for _, token := range tries(t, x, r, door.parse) {
				if len(r.tokens) == 3+i {
					return
				}
				x.read(token)
				goOn(r.with(token, 0))
				x.back()
			}
		}
		goOn(row{})
	}
}

// P5.1: long rows, by chance, at each of their tokens. (Those that go on or end what is open are taken more often than others, so that there are some that end.)
func TestLongRows(t *testing.T) {
	r := readRules()
	for i, door := range doors {
		chance := rand.New(rand.NewSource(int64(i)))
		for range 40 {
			x := startReading(r, door.rule)
			var long row
			for range 30 {
				may := tries(t, x, long, door.parse)
				for _, end := range []string{`")"`, `"}"`, `"]"`, `"end"`, `"|"`, `","`, `":"`, `"=>"`, `";"`} {
					if slices.Contains(may, end) {
						may = append(may, end, end, end)
					}
				}
				if len(may) == 0 {
					break
				}
				token := may[chance.Intn(len(may))]
				long = long.with(token, chance.Intn(3))
				x.read(token)
			}
		}
	}
}
