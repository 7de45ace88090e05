package literal

import (
	"iter"

	"seine/api"
	"seine/defs"
	"seine/wrap"
)

// A schema is one that is asked again and again for the same names: all elements
// of a list are of one type. So each definition is looked up once.
type schema struct {
	whole api.Schema
	found map[string]api.Def
}

func ask(s api.Schema) schema { return schema{s, map[string]api.Def{}} }

// find returns the definition with this name, or an empty one if there is none.
func (s schema) find(name string) api.Def {
	d, is := s.found[name]
	if !is {
		d, _ = defs.Find(s.whole, name)
		s.found[name] = d
	}
	return d
}

// A place is where a value stands: the type that is required there, and whether
// there is a default.
type place struct {
	t   api.Type
	has bool
	v   api.Value
}

// places yields p and all places in it, each ahead of those in it, in the order
// in which they stand.
func (s schema) places(p place) iter.Seq[place] {
	return func(yield func(place) bool) {
		open := [][]place{{p}} // what is left of the members and elements within one another, the innermost ones last
	nested:
		for len(open) > 0 {
			in := len(open) - 1
			for k, x := range open[in] {
				if !yield(x) {
					return
				}
				if inner := s.within(x); len(inner) > 0 {
					open[in] = open[in][k+1:]
					open = append(open, inner)
					continue nested
				}
			}
			open = open[:in]
		}
	}
}

// within returns the places in p itself: those of elements, of members, or of a
// value that stands for a list.
func (s schema) within(p place) []place {
	item, list := wrap.Item(p.t)
	switch {
	case p.v.Kind == api.Var || p.v.Kind == api.Null:
		return nil
	case list && p.v.Kind == api.List:
		return elements(item, p.v.L)
	case list:
		return []place{{t: item, v: p.v}}
	case p.v.Kind == api.Map:
		return members(s.find(p.t.Name).Params, p.v.M)
	}
	return nil
}

func elements(item api.Type, l []api.Value) []place {
	out := make([]place, len(l))
	for k, x := range l {
		out[k] = place{t: item, v: x}
	}
	return out
}

// members returns the places of those members that have a Param.
func members(params []api.Param, l []api.Member) []place {
	var out []place
	for _, m := range l {
		if p, is := param(params, m.Name); is {
			out = append(out, place{p.T, p.Has, m.V})
		}
	}
	return out
}

// param returns the first Param with this Name, and whether there is one.
func param(l []api.Param, name string) (api.Param, bool) {
	for _, p := range l {
		if p.Name == name {
			return p, true
		}
	}
	return api.Param{}, false
}
