package polar_test

import (
	"fmt"
	"regexp"
	"slices"
	"sort"
	"strings"
	"testing"

	"azimuth/api"
	"azimuth/arena"
	"azimuth/polar"
)

// The chapter's words, said anew, so that the package isn't held against itself.

// told is all that an arena tells of a part.
type told struct {
	isVar     bool
	level     int
	head      api.Head
	low, high []int
}

func toldOf(a *arena.Arena) []told {
	l := make([]told, a.Len())
	for i := range l {
		h, _ := a.At(i)
		l[i] = told{a.IsVar(i), a.Level(i), h, a.Low(i), a.High(i)}
	}
	return l
}

// asWas: does an arena tell the same?
func asWas(was, is []told) bool {
	return slices.EqualFunc(was, is, func(x, y told) bool {
		return x.isVar == y.isVar && x.level == y.level && equalHeads(x.head, y.head) && slices.Equal(x.low, y.low) && slices.Equal(x.high, y.high)
	})
}

// signed is a row of parts, with a sign.
type signed struct {
	plus bool
	row  map[int]bool
}

// rising: a row's parts.
func (s signed) rising() (l []int) {
	for i := range s.row {
		l = append(l, i)
	}
	sort.Ints(l)
	return l
}

func (s signed) String() string { return fmt.Sprint(s.plus, s.rising()) }

// closedAnew: of plus with each variable all of its bounds below it are in it, of minus above; as long as one more is found, all are asked again.
func closedAnew(parts []told, plus bool, l []int) signed {
	s := signed{plus, map[int]bool{}}
	for _, i := range l {
		s.row[i] = true
	}
	for n := -1; n != len(s.row); {
		n = len(s.row)
		for _, i := range s.rising() {
			bounds := parts[i].low
			if !plus {
				bounds = parts[i].high
			}
			for _, k := range bounds {
				s.row[k] = true
			}
		}
	}
	return s
}

// is is what a row is with a sign: heads, each with a row for each of its kids.
type is struct {
	vars  []int
	heads []headIs
}

type headIs struct {
	kind  int
	open  bool
	names []string
	kids  []signed
}

// isAnew: a row's variables and heads.
func isAnew(parts []told, above int, s signed) (x is) {
	of := map[int][]api.Head{}
	for _, i := range s.rising() {
		if !parts[i].isVar {
			of[parts[i].head.Kind] = append(of[parts[i].head.Kind], parts[i].head)
		} else if parts[i].level > above {
			x.vars = append(x.vars, i)
		}
	}
	switch {
	case s.plus && len(of[api.TAny]) > 0:
		return is{heads: []headIs{{kind: api.TAny}}}
	case !s.plus && len(of[api.TNone]) > 0:
		return is{heads: []headIs{{kind: api.TNone}}}
	case s.plus:
		delete(of, api.TNone)
	default:
		delete(of, api.TAny)
	}
	for kind := 0; kind <= api.TVariant; kind++ {
		if len(of[kind]) > 0 {
			x.heads = append(x.heads, headAnew(parts, s.plus, of[kind]))
		}
	}
	return x
}

func headAnew(parts []told, plus bool, l []api.Head) headIs {
	h := headIs{kind: l[0].Kind}
	switch h.kind {
	case api.TFun:
		var takes, tells []int
		for _, x := range l {
			takes, tells = append(takes, x.Kids[0]), append(tells, x.Kids[1])
		}
		h.kids = []signed{closedAnew(parts, !plus, takes), closedAnew(parts, plus, tells)}
		return h
	case api.TRecord:
		if plus {
			h.names = inAll(l)
		} else {
			h.names = inSome(l)
		}
	case api.TVariant:
		h.names, h.open = variantAnew(plus, l)
	}
	for _, name := range h.names {
		var kids []int
		for _, x := range l {
			if at := slices.Index(x.Names, name); at >= 0 {
				kids = append(kids, x.Kids[at])
			}
		}
		h.kids = append(h.kids, closedAnew(parts, plus, kids))
	}
	return h
}

func variantAnew(plus bool, l []api.Head) ([]string, bool) {
	var open, closed []api.Head
	for _, h := range l {
		if h.Open {
			open = append(open, h)
		} else {
			closed = append(closed, h)
		}
	}
	switch {
	case plus && len(open) == 0:
		return inSome(l), false
	case plus:
		return inAll(open), true
	case len(open) == 0:
		return inAll(l), false
	case len(closed) > 0:
		return inAll(closed), false
	}
	return inSome(l), true
}

// inSome: the names that some have.
func inSome(l []api.Head) (names []string) {
	for _, h := range l {
		for _, name := range h.Names {
			if !slices.Contains(names, name) {
				names = append(names, name)
			}
		}
	}
	sort.Strings(names)
	return names
}

// inAll: the names that all have.
func inAll(l []api.Head) (names []string) {
	for _, name := range inSome(l) {
		if !slices.ContainsFunc(l, func(h api.Head) bool { return !slices.Contains(h.Names, name) }) {
			names = append(names, name)
		}
	}
	return names
}

// ofAnew: the automaton of a part, as long as it has no more than so many states; else no states.
func ofAnew(parts []told, i, above, most int) polar.Auto {
	numbers := map[string]int{}
	var rows []signed
	number := func(s signed) int {
		n, known := numbers[s.String()]
		if !known {
			n = len(rows)
			numbers[s.String()] = n
			rows = append(rows, s)
		}
		return n
	}
	number(closedAnew(parts, true, []int{i}))
	var x polar.Auto
	for at := 0; at < len(rows); at++ {
		if len(rows) > most {
			return polar.Auto{}
		}
		row := isAnew(parts, above, rows[at])
		s := polar.State{Plus: rows[at].plus, Vars: row.vars}
		for _, h := range row.heads {
			head := api.Head{Kind: h.kind, Open: h.open, Names: h.names}
			for _, kid := range h.kids {
				head.Kids = append(head.Kids, number(kid))
			}
			s.Heads = append(s.Heads, head)
		}
		x.L = append(x.L, s)
	}
	return x
}

// closedOfAnew: a graph's automaton, of one that is normal: each of its heads with a sign is a state.
func closedOfAnew(g api.Graph) polar.Auto {
	type signedHead struct {
		head int
		plus bool
	}
	order := []signedHead{{g.Root, true}}
	number := func(s signedHead) int {
		n := slices.Index(order, s)
		if n < 0 {
			n = len(order)
			order = append(order, s)
		}
		return n
	}
	var x polar.Auto
	for at := 0; at < len(order); at++ {
		s := polar.State{Plus: order[at].plus}
		h := g.L[order[at].head]
		head := api.Head{Kind: h.Kind, Names: slices.Clone(h.Names), Open: h.Open}
		for k, kid := range h.Kids {
			head.Kids = append(head.Kids, number(signedHead{kid, s.Plus == (h.Kind != api.TFun || k == 1)}))
		}
		if h.Kind != api.TNone && h.Kind != api.TAny || (h.Kind == api.TAny) == s.Plus {
			s.Heads = []api.Head{head}
		}
		x.L = append(x.L, s)
	}
	return x
}

var (
	namePattern = regexp.MustCompile(`^[a-z_][a-z_0-9]*$`)
	wordPattern = regexp.MustCompile(`^(fun|let|rec|in|if|then|else|case|of|end|true|false|int|bool|str|float|dyn|any|none|type)$`)
)

// checkAnew: what is wrong with an automaton, "" if nothing is.
func checkAnew(x polar.Auto) string {
	switch {
	case len(x.L) == 0:
		return "no states"
	case len(x.L) > 4096:
		return "too many states"
	case x.Root < 0 || x.Root >= len(x.L):
		return "the root is no state"
	case !x.L[x.Root].Plus:
		return "the root isn't plus"
	}
	for i, s := range x.L {
		if wrong := stateWrong(x, s); wrong != "" {
			return fmt.Sprint("state ", i, ": ", wrong)
		}
	}
	return ""
}

func stateWrong(x polar.Auto, s polar.State) string {
	last := -1
	for _, v := range s.Vars {
		if v <= last {
			return "variables"
		}
		last = v
	}
	last = -1
	for _, h := range s.Heads {
		if h.Kind <= last {
			return "kinds"
		}
		last = h.Kind
		if !asks(h) {
			return "a head"
		}
		for k, kid := range h.Kids {
			if kid < 0 || kid >= len(x.L) {
				return "a kid that is no state"
			}
			same := h.Kind != api.TFun || k != 0
			if same != (x.L[kid].Plus == s.Plus) {
				return "a kid's sign"
			}
		}
		if h.Kind == api.TNone && s.Plus || h.Kind == api.TAny && !s.Plus {
			return "what counts for nothing"
		}
		if (h.Kind == api.TAny || h.Kind == api.TNone) && len(s.Heads)+len(s.Vars) > 1 {
			return "something beside it"
		}
	}
	return ""
}

// asks: has a head what its kind asks, but for what its kids are?
func asks(h api.Head) bool {
	for i, name := range h.Names {
		word := wordPattern.MatchString(name)
		if !namePattern.MatchString(name) || word && h.Kind != api.TVariant || i > 0 && strings.Compare(h.Names[i-1], name) >= 0 {
			return false
		}
	}
	switch h.Kind {
	case api.TInt, api.TBool, api.TStr, api.TFloat, api.TDyn, api.TAny, api.TNone:
		return len(h.Names)+len(h.Kids) == 0 && !h.Open
	case api.TFun:
		return len(h.Names) == 0 && len(h.Kids) == 2 && !h.Open
	case api.TRecord:
		return len(h.Names) == len(h.Kids) && !h.Open
	case api.TVariant:
		return len(h.Names) == len(h.Kids)
	}
	return false
}

// reachAnew: the states that the root comes to: as long as one more is found, all are asked again.
func reachAnew(x polar.Auto) (l []int) {
	if checkAnew(x) != "" {
		return nil
	}
	in := map[int]bool{x.Root: true}
	for n := 0; n != len(in); {
		n = len(in)
		for i, s := range x.L {
			for _, h := range s.Heads {
				for _, kid := range h.Kids {
					if in[i] {
						in[kid] = true
					}
				}
			}
		}
	}
	for i := range in {
		l = append(l, i)
	}
	sort.Ints(l)
	return l
}

// asked looks whether Check and Reach tell of an automaton what the words say, and hands on whether it may be.
func asked(t *testing.T, what string, x polar.Auto) bool {
	t.Helper()
	wrong := checkAnew(x)
	want := api.OK
	if wrong != "" {
		want = api.ErrForm
	}
	if e := polar.Check(x); e != want {
		t.Errorf("%s: Check of %s: %d; the words say %q", what, short(x), e, wrong)
	}
	if l, want := polar.Reach(x), reachAnew(x); !slices.Equal(l, want) {
		t.Errorf("%s: Reach of %s: %v; it is %v", what, short(x), short(l), short(want))
	}
	return wrong == ""
}

// of asks for a part's automaton, and looks whether it is as the words say, whether it may be, with its root coming to all of it, whether most is held to, and whether the arena is as it was.
func of(t *testing.T, a *arena.Arena, i, above int) polar.Auto {
	t.Helper()
	was := toldOf(a)
	want := ofAnew(was, i, above, api.MaxStates)
	x, e := polar.Of(a, i, above, api.MaxStates)
	if len(want.L) == 0 {
		if e != api.ErrMany || !equal(x, polar.Auto{}) {
			t.Fatalf("Of %d above %d: %s, %d; it has too many states", i, above, short(x), e)
		}
		return x
	}
	if e != api.OK || !equal(x, want) {
		t.Fatalf("Of %d above %d: %s, %d; it is %s; the parts are %v", i, above, short(x), e, short(want), was)
	}
	if !asked(t, "an answer", x) || len(polar.Reach(x)) != len(x.L) {
		t.Fatalf("Of %d above %d: %s may not be", i, above, short(x))
	}
	if y, e := polar.Of(a, i, above, len(x.L)); e != api.OK || !equal(y, x) {
		t.Fatalf("Of %d above %d, with just as many states as most: %s, %d", i, above, short(y), e)
	}
	if len(x.L) > 1 {
		tooMany(t, a, i, above, len(x.L)-1)
	}
	if !asWas(was, toldOf(a)) {
		t.Fatalf("Of %d above %d changes the arena", i, above)
	}
	return x
}

// tooMany looks whether an automaton has more states than most.
func tooMany(t *testing.T, a *arena.Arena, i, above, most int) {
	t.Helper()
	if x, e := polar.Of(a, i, above, most); e != api.ErrMany || !equal(x, polar.Auto{}) {
		t.Fatalf("Of %d above %d, with more states than %d: %s, %d", i, above, most, short(x), e)
	}
}
