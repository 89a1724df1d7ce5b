package graph

import (
	"azimuth/api"
	"bytes"
	"strconv"
	"strings"
)

// The kinds' signs, from TInt on, and behind them that of an open TVariant.
const signs = "ibsfd*!>{[]"

const openSign = len(signs) - 1

func signOf(h api.Head) byte {
	if h.Open {
		return signs[openSign]
	}
	return signs[h.Kind]
}

// written: the bytes of a normal graph.
func written(g api.Graph) []byte {
	var b []byte
	for _, h := range g.L {
		b = append(b, signOf(h))
		for i, kid := range h.Kids {
			if len(h.Names) > 0 {
				b = append(append(b, h.Names[i]...), ':')
			}
			b = append(strconv.AppendInt(b, int64(kid), 10), ',')
		}
		b = append(b, ';')
	}
	return b
}

// parsed: the graph of bytes that are one's; of others whatever comes, which may be a graph that may not be.
func parsed(b []byte) api.Graph {
	var g api.Graph
	// A graph of one head too many isn't one either, so the rest needn't be read.
	for len(b) > 0 && len(g.L) <= api.MaxStates {
		var text []byte
		text, b, _ = bytes.Cut(b, []byte(";"))
		g.L = append(g.L, parsedHead(text))
	}
	return g
}

// parsedHead: the head of its bytes, without the semicolon.
func parsedHead(b []byte) api.Head {
	if len(b) == 0 {
		return api.Head{}
	}
	h := api.Head{Kind: strings.IndexByte(signs, b[0])}
	if h.Kind == openSign {
		h.Kind, h.Open = api.TVariant, true
	}
	for rest := b[1:]; len(rest) > 0; {
		var text []byte
		text, rest, _ = bytes.Cut(rest, []byte(","))
		name, number, named := bytes.Cut(text, []byte(":"))
		if named {
			h.Names = append(h.Names, string(name))
		} else {
			number = text
		}
		kid, _ := strconv.Atoi(string(number))
		h.Kids = append(h.Kids, kid)
	}
	return h
}
