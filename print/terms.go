package print

import (
	"azimuth/api"
	"azimuth/floats"
	"azimuth/lexer"
	"strconv"
)

// ruleOf: the rule that tells a term without brackets around it.
func ruleOf(n *api.Node) rule {
	switch n.Kind {
	case api.Fun, api.Let, api.LetRec, api.If, api.Case:
		return ruleTerm
	case api.Op:
		return ruleOfSign(n.Name)
	case api.App:
		return ruleApply
	case api.Tag:
		return ruleUnit
	case api.Select:
		return rulePost
	}
	return ruleAtom
}

func ruleOfSign(sign string) rule {
	switch sign {
	case "^":
		return ruleJoin
	case "+", "-", "+.", "-.":
		return ruleSum
	case "*", "/", "*.", "/.":
		return ruleProduct
	}
	return ruleCompare
}

// term puts one where a rule stands.
func (p *printer) term(i int, there rule) {
	n := &p.of.Nodes[i]
	if ruleOf(n) < there {
		p.put("(")
		defer p.put(")")
	}
	switch n.Kind {
	case api.Fun:
		p.put("fun ", n.Name, " -> ")
		p.term(n.Kids[0], ruleTerm)
	case api.App:
		p.term(n.Kids[0], ruleApply)
		p.put(" ")
		p.term(n.Kids[1], ruleUnit)
	case api.Let:
		p.let("let ", n)
	case api.LetRec:
		p.let("let rec ", n)
	case api.If:
		p.choice(n)
	case api.Case:
		p.cases(n)
	case api.Tag:
		p.put("#", n.Name, " ")
		p.term(n.Kids[0], rulePost)
	case api.Select:
		p.term(n.Kids[0], rulePost)
		p.put(".", n.Name)
	case api.Op:
		p.op(n)
	default:
		p.atom(n)
	}
}

// atom puts a term that is never in brackets.
func (p *printer) atom(n *api.Node) {
	switch n.Kind {
	case api.Var:
		p.put(n.Name)
	case api.Int:
		p.put(strconv.FormatInt(n.Int, 10))
	case api.Bool:
		p.put(strconv.FormatBool(n.Int == 1))
	case api.Str:
		p.put(lexer.Quote(n.Name))
	case api.Float:
		p.put(floats.Of(n.Bits).Text())
	case api.Record:
		p.fields(n.Names, n.Kids, " = ", func(i int) { p.term(i, ruleTerm) })
	case api.Ascribe, api.Cast:
		p.held(n)
	}
}

func (p *printer) let(begin string, n *api.Node) {
	p.put(begin, n.Name, " = ")
	p.term(n.Kids[0], ruleTerm)
	p.put(" in ")
	p.term(n.Kids[1], ruleTerm)
}

func (p *printer) choice(n *api.Node) {
	p.put("if ")
	p.term(n.Kids[0], ruleTerm)
	p.put(" then ")
	p.term(n.Kids[1], ruleTerm)
	p.put(" else ")
	p.term(n.Kids[2], ruleTerm)
}

func (p *printer) cases(n *api.Node) {
	p.put("case ")
	defer p.put(" end")
	p.term(n.Kids[0], ruleTerm)
	p.put(" of")
	for i, kid := range n.Kids[1:] {
		if 2*i < len(n.Names) {
			p.put(" | #", n.Names[2*i], " ", n.Names[2*i+1], " -> ")
		} else {
			p.put(" | else -> ")
		}
		p.term(kid, ruleTerm)
	}
}

func (p *printer) op(n *api.Node) {
	own := ruleOfSign(n.Name)
	left := own // a row stands to the left
	if own == ruleCompare {
		left++ // which has one sign at most
	}
	p.term(n.Kids[0], left)
	p.put(" ", n.Name, " ")
	p.term(n.Kids[1], own+1)
}

// held puts a term with what it is ascribed, or cast to. Its round brackets are its own.
func (p *printer) held(n *api.Node) {
	p.put("(")
	defer p.put(")")
	p.term(n.Kids[0], ruleTerm)
	p.put(" : ")
	p.typed(n.Types[0], ruleType)
	if n.Kind == api.Cast {
		p.put(" => ")
		p.typed(n.Types[1], ruleType)
	}
}
