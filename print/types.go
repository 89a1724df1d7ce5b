package print

import "azimuth/api"

// typed puts a type where a rule stands.
func (p *printer) typed(i int, there rule) {
	n := &p.of.Types[i]
	if n.Kind == api.TFun && there == ruleSimple {
		p.put("(")
		defer p.put(")")
	}
	switch n.Kind {
	case api.TFun:
		p.typed(n.Kids[0], ruleSimple)
		p.put(" -> ")
		p.typed(n.Kids[1], ruleType)
	case api.TRecord:
		p.fields(n.Names, n.Kids, ": ", func(i int) { p.typed(i, ruleType) })
	case api.TVariant:
		p.variant(n)
	case api.TAlias:
		p.put(n.Name)
	default:
		p.put(wordOf(n.Kind))
	}
}

func (p *printer) variant(n *api.TypeNode) {
	p.put("[")
	defer p.put("]")
	ahead := ""
	for i, tag := range n.Names {
		p.put(ahead, "#", tag, " ")
		p.typed(n.Kids[i], ruleSimple)
		ahead = " | "
	}
	if n.Open {
		p.put(ahead, "..")
	}
}

func wordOf(kind int) string {
	words := [...]string{
		api.TInt: "int", api.TBool: "bool", api.TStr: "str", api.TFloat: "float",
		api.TDyn: "dyn", api.TAny: "any", api.TNone: "none",
	}
	return words[kind]
}
