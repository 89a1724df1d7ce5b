package parse

import (
	"azimuth/api"
	"azimuth/floats"
	"strconv"
)

// term reads one, of any rule.
func (p *parser) term() int {
	p.begin()
	defer p.end()
	switch {
	case p.stands("fun"):
		return p.fun()
	case p.stands("let"):
		return p.let()
	case p.stands("if"):
		return p.choice()
	case p.stands("case"):
		return p.cases()
	}
	return p.compare()
}

func (p *parser) fun() int {
	n := api.Node{Kind: api.Fun, Pos: p.next().Pos, Name: p.token(api.TokName).Text}
	p.must("->")
	n.Kids = []int{p.term()}
	return p.newTerm(n)
}

func (p *parser) let() int {
	n := api.Node{Kind: api.Let, Pos: p.next().Pos}
	if p.takes("rec") {
		n.Kind = api.LetRec
	}
	n.Name = p.token(api.TokName).Text
	p.must("=")
	n.Kids = append(n.Kids, p.term())
	p.must("in")
	n.Kids = append(n.Kids, p.term())
	return p.newTerm(n)
}

func (p *parser) choice() int {
	n := api.Node{Kind: api.If, Pos: p.next().Pos}
	n.Kids = append(n.Kids, p.term())
	p.must("then")
	n.Kids = append(n.Kids, p.term())
	p.must("else")
	n.Kids = append(n.Kids, p.term())
	return p.newTerm(n)
}

func (p *parser) cases() int {
	n := api.Node{Kind: api.Case, Pos: p.next().Pos}
	n.Kids = append(n.Kids, p.term())
	p.must("of")
	last := false
	for !last && p.takes("|") {
		last = p.takes("else")
		if !last {
			n.Names = append(n.Names, p.own(n.Pos, api.TokTag))
			n.Names = append(n.Names, p.token(api.TokName).Text)
		}
		p.must("->")
		n.Kids = append(n.Kids, p.term())
	}
	p.must("end")
	return p.newTerm(n)
}

func (p *parser) compare() int {
	left := p.join()
	if p.stands("==", "<", "<.") {
		return p.op(left, p.join)
	}
	return left
}

func (p *parser) join() int { return p.row(p.sum, "^") }

func (p *parser) sum() int { return p.row(p.product, "+", "-", "+.", "-.") }

func (p *parser) product() int { return p.row(p.apply, "*", "/", "*.", "/.") }

// row reads parts with signs between them, which stand to the left.
func (p *parser) row(part func() int, signs ...string) int {
	left := part()
	for p.stands(signs...) {
		left = p.op(left, part)
	}
	return left
}

// op reads a sign, and what stands behind it.
func (p *parser) op(left int, part func() int) int {
	sign := p.next()
	return p.newTerm(api.Node{Kind: api.Op, Pos: sign.Pos, Name: sign.Text, Kids: []int{left, part()}})
}

func (p *parser) apply() int {
	left := p.unit()
	for p.unitStands() {
		at := p.now().Pos
		left = p.newTerm(api.Node{Kind: api.App, Pos: at, Kids: []int{left, p.unit()}})
	}
	return left
}

// unitStands: does one begin here?
func (p *parser) unitStands() bool {
	switch p.now().Kind {
	case api.TokTag, api.TokName, api.TokInt, api.TokFloat, api.TokString:
		return true
	}
	return p.stands("true", "false", "(", "{")
}

func (p *parser) unit() int {
	if p.now().Kind != api.TokTag {
		return p.post()
	}
	tag := p.next()
	return p.newTerm(api.Node{Kind: api.Tag, Pos: tag.Pos, Name: tag.Text, Kids: []int{p.post()}})
}

func (p *parser) post() int {
	left := p.atom()
	for p.stands(".") {
		at := p.next().Pos
		left = p.newTerm(api.Node{Kind: api.Select, Pos: at, Name: p.token(api.TokName).Text, Kids: []int{left}})
	}
	return left
}

func (p *parser) atom() int {
	switch {
	case p.stands("("):
		return p.bracket()
	case p.stands("{"):
		return p.record()
	}
	n := p.leaf()
	p.at++
	return p.newTerm(n)
}

// leaf: the term that the token is. (The lexer takes no number that couldn't be read here.)
func (p *parser) leaf() api.Node {
	x := p.now()
	switch x.Kind {
	case api.TokName:
		return api.Node{Kind: api.Var, Pos: x.Pos, Name: x.Text}
	case api.TokString:
		return api.Node{Kind: api.Str, Pos: x.Pos, Name: x.Text}
	case api.TokInt:
		number, _ := strconv.ParseInt(x.Text, 10, 64)
		return api.Node{Kind: api.Int, Pos: x.Pos, Int: number}
	case api.TokFloat:
		number, _ := floats.Parse(x.Text)
		return api.Node{Kind: api.Float, Pos: x.Pos, Bits: uint64(number)}
	}
	switch {
	case p.stands("true"):
		return api.Node{Kind: api.Bool, Pos: x.Pos, Int: 1}
	case p.stands("false"):
		return api.Node{Kind: api.Bool, Pos: x.Pos}
	}
	panic(p.wrong(api.ErrParse))
}

// bracket reads a term in round brackets, by itself, or with what it is ascribed or cast to.
func (p *parser) bracket() int {
	n := api.Node{Kind: api.Ascribe, Pos: p.next().Pos}
	inner := p.term()
	if p.takes(")") {
		return inner
	}
	p.must(":")
	n.Kids, n.Types = []int{inner}, []int{p.typed()}
	if p.takes("=>") {
		n.Kind, n.Types = api.Cast, append(n.Types, p.typed())
	}
	p.must(")")
	return p.newTerm(n)
}

func (p *parser) record() int {
	n := api.Node{Kind: api.Record, Pos: p.next().Pos}
	n.Names, n.Kids = p.fields(n.Pos, "=", p.term)
	return p.newTerm(n)
}

// fields reads the inner part of a record, or of a record type, and the bracket behind it.
func (p *parser) fields(owner int, sign string, part func() int) (names []string, parts []int) {
	if p.takes("}") {
		return nil, nil
	}
	for {
		names = append(names, p.own(owner, api.TokName))
		p.must(sign)
		parts = append(parts, part())
		if p.takes("}") {
			return names, parts
		}
		p.must(",")
	}
}
