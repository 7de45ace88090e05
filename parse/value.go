package parse

import (
	"strconv"

	"seine/api"
	"seine/value"
	"seine/wrap"
)

func (r *reader) value(fixed bool) api.Value {
	switch {
	case r.at(api.Punct, "["):
		return r.list(fixed)
	case r.at(api.Punct, "{"):
		return r.members(fixed)
	case !fixed && r.skip(api.Punct, "$"):
		return api.Value{Kind: api.Var, S: r.name()}
	}
	return single(r.take())
}

func (r *reader) list(fixed bool) api.Value {
	v := api.Value{Kind: api.List}
	r.enter("[")
	for !r.skip(api.Punct, "]") {
		v.L = append(v.L, r.value(fixed))
	}
	r.leave()
	return v
}

// members reads a Map.
func (r *reader) members(fixed bool) api.Value {
	v := api.Value{Kind: api.Map}
	r.enter("{")
	for !r.skip(api.Punct, "}") {
		v.M = append(v.M, r.member(fixed))
	}
	r.leave()
	return v
}

// member reads one of a Map, or an argument.
func (r *reader) member(fixed bool) api.Member {
	name := r.name()
	r.need(api.Punct, ":")
	return api.Member{Name: name, V: r.value(fixed)}
}

// single returns the value that is written as t alone.
func single(t api.Token) api.Value {
	switch t.Kind {
	case api.Word:
		return wordValue(t.S)
	case api.Digits:
		if n, err := strconv.ParseInt(t.S, 10, 64); err == nil {
			return value.Int(n)
		}
		return api.Value{Kind: api.Num, S: t.S}
	case api.Point:
		return api.Value{Kind: api.Num, S: t.S}
	case api.Quote:
		return value.Text(t.S)
	}
	panic(refusal{api.ErrForm})
}

func wordValue(s string) api.Value {
	switch s {
	case "null":
		return api.Value{Kind: api.Null}
	case "true":
		return api.Value{Kind: api.Bool, N: 1}
	case "false":
		return api.Value{Kind: api.Bool}
	}
	return api.Value{Kind: api.Enum, S: s}
}

func (r *reader) wrapped() api.Type { return r.wrappedIn(0) }

// wrappedIn reads a type that stands in so many lists.
func (r *reader) wrappedIn(lists int) api.Type {
	var t api.Type
	if r.at(api.Punct, "[") && lists == api.MaxLists {
		panic(refusal{api.ErrDeep})
	}
	if r.skip(api.Punct, "[") {
		t, _ = wrap.List(r.wrappedIn(lists + 1)) // no item has MaxLists lists itself
		r.need(api.Punct, "]")
	} else {
		t.Name = r.name()
	}
	if r.skip(api.Punct, "!") {
		t = wrap.Must(t)
	}
	return t
}
