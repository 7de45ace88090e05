package syntax

import (
	"strconv"

	"seine/api"
	"seine/value"
	"seine/wrap"
)

// Directives reads any number of directives; if fixed is true, their values have
// to be fixed.
func (r *Reader) Directives(fixed bool) []api.Dir {
	var l []api.Dir
	for r.Skip(api.Punct, "@") {
		l = append(l, api.Dir{Name: r.Name(), Args: r.Arguments(fixed)})
	}
	return l
}

// Arguments reads arguments if there are any.
func (r *Reader) Arguments(fixed bool) []api.Member {
	if !r.Skip(api.Punct, "(") {
		return nil
	}
	return Series(r, ")", func(r *Reader) api.Member { return r.member(fixed) })
}

// Param reads a parameter: a name, a type and maybe a default.
func (r *Reader) Param() api.Param {
	p := api.Param{Name: r.Name()}
	r.Need(api.Punct, ":")
	p.T = r.Type()
	if r.Skip(api.Punct, "=") {
		p.Has = true
		p.Default = r.Value(true)
	}
	return p
}

// Value reads a value; if fixed is true, it has to be fixed.
func (r *Reader) Value(fixed bool) api.Value {
	switch {
	case r.At(api.Punct, "["):
		return r.list(fixed)
	case r.At(api.Punct, "{"):
		return r.members(fixed)
	case !fixed && r.Skip(api.Punct, "$"):
		return api.Value{Kind: api.Var, S: r.Name()}
	}
	return single(r.Take())
}

func (r *Reader) list(fixed bool) api.Value {
	v := api.Value{Kind: api.List}
	r.Enter("[")
	for !r.Skip(api.Punct, "]") {
		v.L = append(v.L, r.Value(fixed))
	}
	r.Leave()
	return v
}

// members reads a Map.
func (r *Reader) members(fixed bool) api.Value {
	v := api.Value{Kind: api.Map}
	r.Enter("{")
	for !r.Skip(api.Punct, "}") {
		v.M = append(v.M, r.member(fixed))
	}
	r.Leave()
	return v
}

// member reads one of a Map, or an argument.
func (r *Reader) member(fixed bool) api.Member {
	name := r.Name()
	r.Need(api.Punct, ":")
	return api.Member{Name: name, V: r.Value(fixed)}
}

// single returns the value that is written as t alone.
func single(t api.Token) api.Value {
	switch t.Kind {
	case api.Word:
		return wordValue(t.S)
	case api.Digits:
		if n, err := strconv.ParseInt(t.S, 10, 64); err == nil {
			return value.Int(n)
		}
		return api.Value{Kind: api.Num, S: t.S}
	case api.Point:
		return api.Value{Kind: api.Num, S: t.S}
	case api.Quote:
		return value.Text(t.S)
	}
	panic(Refusal{api.ErrForm})
}

func wordValue(s string) api.Value {
	switch s {
	case "null":
		return api.Value{Kind: api.Null}
	case "true":
		return api.Value{Kind: api.Bool, N: 1}
	case "false":
		return api.Value{Kind: api.Bool}
	}
	return api.Value{Kind: api.Enum, S: s}
}

// Type reads a type.
func (r *Reader) Type() api.Type { return r.typeIn(0) }

// typeIn reads a type that stands in so many lists.
func (r *Reader) typeIn(lists int) api.Type {
	var t api.Type
	if r.At(api.Punct, "[") && lists == api.MaxLists {
		panic(Refusal{api.ErrDeep})
	}
	if r.Skip(api.Punct, "[") {
		t, _ = wrap.List(r.typeIn(lists + 1)) // no item has MaxLists lists itself
		r.Need(api.Punct, "]")
	} else {
		t.Name = r.Name()
	}
	if r.Skip(api.Punct, "!") {
		t = wrap.Must(t)
	}
	return t
}
