package graph

import "seine/api"

// A net is the fragments of a document, each of which is known by its place among
// the Frags.
type net struct {
	first map[string]int // the place of the first one of each Name
	ways  [][]int        // the places of those that each one spreads
}

func netOf(d api.Doc) net {
	n := net{first: firsts(d)}
	for _, f := range d.Frags {
		n.ways = append(n.ways, n.places(f.Sels))
	}
	return n
}

// firsts returns the place of the first fragment of each Name.
func firsts(d api.Doc) map[string]int {
	out := map[string]int{}
	for at, f := range d.Frags {
		if _, found := out[f.Name]; !found {
			out[f.Name] = at
		}
	}
	return out
}

// places returns the places of the fragments that l spreads.
func (n net) places(l []api.Sel) []int {
	var out []int
	for _, name := range Spreads(l...) {
		if at, found := n.first[name]; found {
			out = append(out, at)
		}
	}
	return out
}

// A search goes from fragments to those that they spread, in turns: what one turn
// has reached is of no account in the next one. A fragment that is begun and not
// ended is one by which the search has come to where it is.
type search struct {
	net
	turn         int
	begun, ended []int  // the last turn in which each fragment was
	way          []step // to where the search is; a list, as it may be longer than calls should nest
	ring         bool   // the search has come to where it came from
}

// A step is a fragment on the way of a search.
type step struct {
	at   int
	left []int // the ways from there that are not taken
}

func (n net) search() *search {
	return &search{net: n, turn: 1, begun: make([]int, len(n.ways)), ended: make([]int, len(n.ways))}
}

// reached reports whether the fragment at this place is reached in this turn.
func (x *search) reached(at int) bool { return x.begun[at] == x.turn }

// begin takes a step to the fragment at this place.
func (x *search) begin(at int) {
	x.begun[at] = x.turn
	x.way = append(x.way, step{at, x.ways[at]})
}

// from reaches the fragment at start and all to which it leads.
func (x *search) from(start int) {
	if x.reached(start) {
		return
	}
	x.begin(start)
further:
	for len(x.way) > 0 {
		here := &x.way[len(x.way)-1]
		for k, next := range here.left {
			if !x.reached(next) {
				here.left = here.left[k+1:]
				x.begin(next)
				continue further
			}
			x.ring = x.ring || x.ended[next] != x.turn
		}
		x.ended[here.at] = x.turn
		x.way = x.way[:len(x.way)-1]
	}
}
