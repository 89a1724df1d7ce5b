package parse

import (
	"azimuth/api"
	"slices"
)

// typed reads a type.
func (p *parser) typed() int {
	p.begin()
	defer p.end()
	left := p.simple()
	if !p.stands("->") {
		return left
	}
	at := p.next().Pos
	return p.newType(api.TypeNode{Kind: api.TFun, Pos: at, Kids: []int{left, p.typed()}})
}

func (p *parser) simple() int {
	switch {
	case p.stands("["):
		return p.variant()
	case p.stands("("):
		p.at++
		inner := p.typed()
		p.must(")")
		return inner
	case p.stands("{"):
		n := api.TypeNode{Kind: api.TRecord, Pos: p.next().Pos}
		n.Names, n.Kids = p.fields(n.Pos, ":", p.typed)
		return p.newType(n)
	}
	n := p.plain()
	p.at++
	return p.newType(n)
}

// plain: the type that the token is.
func (p *parser) plain() api.TypeNode {
	x := p.now()
	if x.Kind == api.TokAlias {
		return api.TypeNode{Kind: api.TAlias, Pos: x.Pos, Name: x.Text}
	}
	words := [...]string{
		api.TInt: "int", api.TBool: "bool", api.TStr: "str", api.TFloat: "float",
		api.TDyn: "dyn", api.TAny: "any", api.TNone: "none",
	}
	if kind := slices.Index(words[:], x.Text); kind >= 0 && x.Kind == api.TokWord {
		return api.TypeNode{Kind: kind, Pos: x.Pos}
	}
	panic(p.wrong(api.ErrParse))
}

// variant reads one. No rule that is counted stands between it and those in it, so it may be as deep as a text is long: those that are open stand in a list.
func (p *parser) variant() int {
	begun := func() api.TypeNode { return api.TypeNode{Kind: api.TVariant, Pos: p.next().Pos} }
	open := []api.TypeNode{{}, begun()} // the first one's kid is the variant that is read
	for len(open) > 1 {
		last := len(open) - 1
		switch {
		case !p.item(&open[last]):
			open[last-1].Kids = append(open[last-1].Kids, p.newType(open[last]))
			open = open[:last]
		case p.stands("["):
			open = append(open, begun())
		default:
			open[last].Kids = append(open[last].Kids, p.simple())
		}
	}
	return open[0].Kids[0]
}

// item reads up to where the type of a variant's next item stands; false: the variant is closed.
func (p *parser) item(n *api.TypeNode) bool {
	if p.takes("]") {
		return false
	}
	if len(n.Kids) > 0 {
		p.must("|")
	}
	if p.takes("..") {
		n.Open = true
		p.must("]")
		return false
	}
	n.Names = append(n.Names, p.own(n.Pos, api.TokTag))
	return true
}
