// Package grammar judges texts by a grammar that is written out: what tests hold
// readers of texts against.
package grammar

import (
	"maps"
	"slices"
	"strings"

	"seine/api"
)

// A Grammar knows the ways in which each of its symbols is written: symbols with
// single blanks between them. What has no ways is a token: `name`, `number` and
// `quote`; a `name-a-b` is any name but a and b. The brackets `{` and `[` count as
// nested in one another, and so do `<` and `>`, which stand for the brackets of
// types. A token behind a `'` is that very Word, or a Punct that does not count.
type Grammar struct {
	ways  map[string][]string
	known map[string][]string // what was opened, since the same ways come again and again
}

// New returns the grammar that has these ways. No way of a symbol may begin with
// that symbol, nor lead to one that does.
func New(ways map[string][]string) *Grammar {
	own := maps.Clone(ways)
	for symbol, l := range ways {
		own[symbol] = slices.Clone(l)
	}
	return &Grammar{own, map[string][]string{}}
}

// A place is where one is in a text: the symbols that may follow, in each of the
// ways that are open, and how many brackets are.
type place struct {
	g           *Grammar
	ways        []string
	deep, lists int
}

// start returns the place ahead of what is written as a symbol.
func (g *Grammar) start(symbol string) place { return place{g: g, ways: g.opened(symbol)} }

// Judge returns the error that a text must have where a symbol is to be read.
func (g *Grammar) Judge(symbol string, text []api.Token) api.Errno {
	p, e := g.start(symbol).after(text)
	if e != api.OK {
		return e
	}
	return p.end()
}

// opened replaces the first symbol of a way till it is a token, by each of its ways.
func (g *Grammar) opened(way string) []string {
	if l, is := g.known[way]; is {
		return l
	}
	first, rest, _ := strings.Cut(way, " ")
	choices, is := g.ways[first]
	if !is {
		return []string{way}
	}
	var out []string
	for _, c := range choices {
		out = append(out, g.opened(strings.TrimSpace(c+" "+rest))...)
	}
	slices.Sort(out)
	g.known[way] = slices.Compact(out)
	return g.known[way]
}

// fits reports whether t is written where the grammar has a token.
func fits(symbol string, t api.Token) bool {
	kinds := strings.Split(symbol, "-")
	switch t.Kind {
	case api.Word:
		return symbol == "'"+t.S || kinds[0] == "name" && !slices.Contains(kinds[1:], t.S)
	case api.Digits, api.Point:
		return symbol == "number"
	case api.Quote:
		return symbol == "quote"
	}
	return symbol == t.S || symbol == "'"+t.S || symbol == "<" && t.S == "[" || symbol == ">" && t.S == "]"
}

// next returns the place behind t, or the error that t is. All ways that t fits
// have to count it alike.
func (p place) next(t api.Token) (place, api.Errno) {
	var ways []string
	symbol := ""
	for _, way := range p.ways {
		if first, rest, _ := strings.Cut(way, " "); fits(first, t) {
			ways = append(ways, p.g.opened(rest)...)
			symbol = first
		}
	}
	if len(ways) == 0 {
		return place{}, api.ErrForm
	}
	slices.Sort(ways)
	out := place{p.g, slices.Compact(ways), p.deep, p.lists}
	switch symbol {
	case "{", "[":
		out.deep++
	case "}", "]":
		out.deep--
	case "<":
		out.lists++
	case ">":
		out.lists--
	}
	if out.deep > api.MaxDeep || out.lists > api.MaxLists {
		return place{}, api.ErrDeep
	}
	return out, api.OK
}

// after returns the place behind tokens, or the error that the first wrong one is.
func (p place) after(text []api.Token) (place, api.Errno) {
	for _, t := range text {
		next, e := p.next(t)
		if e != api.OK {
			return place{}, e
		}
		p = next
	}
	return p, api.OK
}

// end returns the error that a text must have that ends here.
func (p place) end() api.Errno {
	if slices.Contains(p.ways, "") {
		return api.OK
	}
	return api.ErrForm
}
