package schema

import (
	"seine/api"
	"seine/defs"
	"seine/literal"
	"seine/wrap"
)

// inputsAreFinite is rule 8.
func inputsAreFinite(s api.Schema) bool {
	x := search{left: map[string][]string{}, begun: map[string]bool{}, ended: map[string]bool{}}
	for _, d := range s.Defs {
		if d.Kind == api.Input {
			x.left[d.Name] = required(d.Params)
		}
	}
	for _, d := range s.Defs {
		if x.ring(d.Name) {
			return false
		}
	}
	return true
}

// defaultsAreRight is rule 9.
func defaultsAreRight(s api.Schema) bool {
	for p := range params(s) {
		if p.Has && !literal.Right(s, p.T, p.Default) {
			return false
		}
	}
	for _, d := range s.Defs {
		for _, p := range d.Params {
			if p.Has && !defs.Leaf(s, p.T.Name) {
				return false
			}
		}
	}
	return true
}

// required returns the names of the types of which a value has to be there.
func required(l []api.Param) []string {
	var out []string
	for _, p := range l {
		if p.T.Lists == 0 && wrap.Is(p.T) {
			out = append(out, p.T.Name)
		}
	}
	return out
}

// A search looks for Inputs that require themselves. An Input that is begun and
// not ended is one from which the way has come.
type search struct {
	left         map[string][]string // what an Input requires and has not been gone into from there
	begun, ended map[string]bool
}

// ring reports whether a way from the Input with this name comes back to where it
// has been. The way stands in a list, as it may be longer than calls should nest.
func (x search) ring(name string) bool {
	way := []string{name}
further:
	for len(way) > 0 {
		at := way[len(way)-1]
		x.begun[at] = true
		for k, next := range x.left[at] {
			if x.ended[next] {
				continue
			}
			if x.begun[next] {
				return true
			}
			x.left[at] = x.left[at][k+1:]
			way = append(way, next)
			continue further
		}
		x.ended[at] = true
		way = way[:len(way)-1]
	}
	return false
}
