package literal

import (
	"slices"

	"seine/api"
	"seine/value"
	"seine/wrap"
)

// fits reports whether the value at p, which is Good, is right there, if those at
// the places in p are.
func (s schema) fits(p place) bool {
	item, list := wrap.Item(p.t)
	switch {
	case !wrap.Right(p.t):
		return false
	case p.v.Kind == api.Var:
		return true
	case p.v.Kind == api.Null:
		return !wrap.Is(p.t)
	case list && p.v.Kind == api.List:
		return mayBe(item, p.v.L)
	case list:
		return true // it stands for a list: all depends on the place of its element
	}
	return s.named(p.t.Name, p.v)
}

// mayBe reports whether the elements may be items, in that none of them would
// have to be put into a list.
func mayBe(item api.Type, l []api.Value) bool {
	_, list := wrap.Item(item)
	return !list || !slices.ContainsFunc(l, alone)
}

// alone reports whether v is what can stand for a list.
func alone(v api.Value) bool {
	return v.Kind != api.List && v.Kind != api.Var && v.Kind != api.Null
}

// named reports whether v, which is neither Var nor Null, is right for the type
// with this name, if its members are right where they stand.
func (s schema) named(name string, v api.Value) bool {
	switch name {
	case "Int":
		return v.Kind == api.Int && v.N >= api.MinInt && v.N <= api.MaxInt
	case "String":
		return v.Kind == api.Text
	case "Boolean":
		return v.Kind == api.Bool
	case "ID":
		return v.Kind == api.Text || v.Kind == api.Int
	}
	d := s.find(name)
	switch d.Kind {
	case api.Enums:
		return v.Kind == api.Enum && slices.Contains(d.Parts, v.S)
	case api.Input:
		return v.Kind == api.Map && once(v.M) && known(d.Params, v.M) && complete(d.Params, v.M)
	}
	return false
}

// once reports whether no Name occurs twice.
func once(l []api.Member) bool {
	seen := map[string]bool{}
	for _, m := range l {
		if seen[m.Name] {
			return false
		}
		seen[m.Name] = true
	}
	return true
}

// known reports whether each Name is that of a Param.
func known(params []api.Param, l []api.Member) bool {
	for _, m := range l {
		if _, is := param(params, m.Name); !is {
			return false
		}
	}
	return true
}

// complete reports whether no Param is missing that must be there.
func complete(params []api.Param, l []api.Member) bool {
	for _, p := range params {
		if p.Has || !wrap.Is(p.T) {
			continue
		}
		if _, is := value.Get(p.Name, l...); !is {
			return false
		}
	}
	return true
}
