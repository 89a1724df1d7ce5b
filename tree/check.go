package tree

import (
	"azimuth/api"
	"azimuth/floats"
	"azimuth/lexer"
	"azimuth/runes"
	"math"
	"slices"
	"strings"
)

// Check: may a tree be?
func Check(t api.Tree) api.Errno {
	if len(t.Nodes) == 0 || len(t.Nodes) > api.MaxNodes || len(t.Types) > api.MaxNodes {
		return api.ErrForm
	}
	terms, types := make(uses, len(t.Nodes)), make(uses, len(t.Types))
	// The whole isn't asked: it is the last one, and kids have lesser numbers.
	if termsMayBe(t, terms, types) && typesMayBe(t, types) && aliasesMayBe(t, types) && terms[:whole(t)].all() && types.all() {
		return api.OK
	}
	return api.ErrForm
}

// uses counts for each part of how many others it is a part.
type uses []int

// take counts parts, of which each must be below end, and may be there once.
func (u uses) take(parts []int, end int) bool {
	for _, i := range parts {
		if i < 0 || i >= end {
			return false
		}
		u[i]++
		if u[i] > 1 {
			return false
		}
	}
	return true
}

// all: was each part taken?
func (u uses) all() bool { return !slices.Contains(u, 0) }

func termsMayBe(t api.Tree, terms, types uses) bool {
	for i, n := range t.Nodes {
		if !terms.take(n.Kids, i) || !types.take(n.Types, len(types)) || !termMayBe(n) {
			return false
		}
	}
	return true
}

func typesMayBe(t api.Tree, types uses) bool {
	for i, n := range t.Types {
		if !types.take(n.Kids, i) || !typeMayBe(n) {
			return false
		}
	}
	return true
}

func aliasesMayBe(t api.Tree, types uses) bool {
	for _, a := range t.Aliases {
		if !isAlias(a.Name) || !types.take([]int{a.Type}, len(types)) {
			return false
		}
	}
	return true
}

// shape is what a kind asks. A function that isn't there: it must be empty, or 0.
type shape struct {
	name  func(s string) bool
	names func(l []string) bool
	bits  func(bits uint64) bool
	most  int64 // of Int
	kids  int
	more  int // kids that there may be beside those
	types int
}

// termShape: what a term's kind asks; false: there is no such kind.
func termShape(n api.Node) (shape, bool) {
	switch n.Kind {
	case api.Var:
		return shape{name: lexer.IsName}, true
	case api.Int:
		return shape{most: math.MaxInt64}, true
	case api.Bool:
		return shape{most: 1}, true
	case api.Str:
		return shape{name: isLine}, true
	case api.Float:
		return shape{bits: isFloat}, true
	case api.Fun, api.Select:
		return shape{name: lexer.IsName, kids: 1}, true
	case api.App:
		return shape{kids: 2}, true
	case api.Let, api.LetRec:
		return shape{name: lexer.IsName, kids: 2}, true
	case api.If:
		return shape{kids: 3}, true
	case api.Case:
		return shape{names: areArms, kids: 1 + len(n.Names)/2, more: 1}, true
	case api.Tag:
		return shape{name: isTag, kids: 1}, true
	case api.Record:
		return shape{names: areNames, kids: len(n.Names)}, true
	case api.Op:
		return shape{name: isOp, kids: 2}, true
	case api.Ascribe:
		return shape{kids: 1, types: 1}, true
	case api.Cast:
		return shape{kids: 1, types: 2}, true
	}
	return shape{}, false
}

// typeShape: what a type's kind asks; false: there is no such kind.
func typeShape(n api.TypeNode) (shape, bool) {
	switch n.Kind {
	case api.TInt, api.TBool, api.TStr, api.TFloat, api.TDyn, api.TAny, api.TNone:
		return shape{}, true
	case api.TFun:
		return shape{kids: 2}, true
	case api.TRecord:
		return shape{names: areNames, kids: len(n.Names)}, true
	case api.TVariant:
		return shape{names: areTags, kids: len(n.Names)}, true
	case api.TAlias:
		return shape{name: isAlias}, true
	}
	return shape{}, false
}

func termMayBe(n api.Node) bool {
	s, ok := termShape(n)
	return ok && s.holds(n)
}

func typeMayBe(n api.TypeNode) bool {
	s, ok := typeShape(n)
	return ok && s.holds(api.Node{Name: n.Name, Names: n.Names, Kids: n.Kids}) && (!n.Open || n.Kind == api.TVariant)
}

// holds: has a part what its shape asks, and nothing else?
func (s shape) holds(n api.Node) bool {
	return n.Int >= 0 && n.Int <= s.most &&
		len(n.Kids) >= s.kids && len(n.Kids) <= s.kids+s.more && len(n.Types) == s.types &&
		asked(s.name, n.Name, n.Name == "") && asked(s.names, n.Names, len(n.Names) == 0) && asked(s.bits, n.Bits, n.Bits == 0)
}

// asked: is something as it is asked for, or empty, if it isn't asked for?
func asked[T any](is func(x T) bool, x T, empty bool) bool {
	if is == nil {
		return empty
	}
	return is(x)
}

func isTag(s string) bool { return lexer.IsName(s) || lexer.IsWord(s) }

func isAlias(s string) bool {
	for i := range len(s) {
		c := s[i]
		great := c >= 'A' && c <= 'Z'
		follows := i > 0 && (c >= 'a' && c <= 'z' || c >= '0' && c <= '9')
		if !great && !follows {
			return false
		}
	}
	return s != ""
}

// isLine: a text that a string's token can stand for.
func isLine(s string) bool {
	return runes.Bad([]byte(s)) < 0 && !strings.ContainsFunc(s, func(r rune) bool { return r < ' ' && r != '\n' })
}

func isFloat(bits uint64) bool { return uint64(floats.Of(bits)) == bits }

func isOp(s string) bool {
	switch s {
	case "+", "-", "*", "/", "+.", "-.", "*.", "/.", "<", "<.", "==", "^":
		return true
	}
	return false
}

func areNames(l []string) bool { return areOnce(l, lexer.IsName) }

func areTags(l []string) bool { return areOnce(l, isTag) }

// areArms: tags and names, by turns, each tag once.
func areArms(l []string) bool {
	if len(l)%2 != 0 {
		return false
	}
	var tags []string
	for i := range len(l) / 2 {
		if !lexer.IsName(l[2*i+1]) {
			return false
		}
		tags = append(tags, l[2*i])
	}
	return areTags(tags)
}

// areOnce: is each what the function asks, and there once?
func areOnce(l []string, is func(s string) bool) bool {
	met := map[string]struct{}{}
	for _, s := range l {
		if !is(s) {
			return false
		}
		met[s] = struct{}{}
	}
	return len(met) == len(l)
}
