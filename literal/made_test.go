package literal_test

import (
	"slices"
	"testing"

	"seine/api"
	"seine/wrap"
)

// A made value is right for a type; spots tells where its Vars are.
type made struct {
	v     api.Value
	spots string
}

// join makes a value that has those of l within it, as put puts them there.
func join(l []made, put func(l []made) api.Value) made {
	out := made{v: put(l)}
	for _, m := range l {
		out.spots += m.spots
	}
	return out
}

// makes makes values that are right for x, which have at most so many Maps within
// one another.
func makes(s api.Schema, x api.Type, has bool, maps int) []made {
	out := []made{
		{variable("x"), spotsText([]api.Spot{{Var: "x", T: x, Has: has}})},
		{variable("y"), spotsText([]api.Spot{{Var: "y", T: x, Has: has}})},
	}
	if !wrap.Is(x) {
		out = append(out, made{})
	}
	if item, is := wrap.Item(x); is {
		out = append(out, makesLists(item, makes(s, item, false, maps))...)
	}
	return append(out, makesSingles(s, x.Name, maps)...)
}

// makesLists makes Lists of up to three of the items, which are all there are.
func makesLists(item api.Type, items []made) []made {
	if item.Lists > 0 {
		items = slices.DeleteFunc(items, func(m made) bool { return !slices.Contains([]int{api.List, api.Var, api.Null}, m.v.Kind) })
	}
	out := []made{{v: list()}}
	for k := range items {
		for n := 1; n <= 3; n++ {
			var l []made
			for i := range n {
				l = append(l, items[(k+i*i*i)%len(items)])
			}
			out = append(out, join(l, func(l []made) api.Value {
				v := list()
				for _, m := range l {
					v.L = append(v.L, m.v)
				}
				return v
			}))
		}
	}
	return out
}

// makesSingles makes values for the type with this name that are neither Var nor
// Null nor List.
func makesSingles(s api.Schema, name string, maps int) []made {
	var out []made
	for _, v := range map[string][]api.Value{
		"Int":     {number(-1 << 31), number(1<<31 - 1)},
		"String":  {single(api.Text, "X")},
		"Boolean": {{Kind: api.Bool}, {Kind: api.Bool, N: 1}},
		"ID":      {single(api.Text, ""), number(1 << 40)},
		"E":       {single(api.Enum, "X"), single(api.Enum, "type")},
	}[name] {
		out = append(out, made{v: v})
	}
	for _, d := range s.Defs {
		if d.Name == name && d.Kind == api.Input && maps > 0 {
			out = append(out, makesMaps(s, d.Params, maps)...)
		}
	}
	return out
}

// makesMaps makes Maps that begin with any of the Params, and have all of them, or
// only those that have to be there.
func makesMaps(s api.Schema, params []api.Param, maps int) []made {
	values := make([][]made, len(params))
	for k, p := range params {
		values[k] = makes(s, p.T, p.Has, maps-1)
	}
	var out []made
	for k := range 24 {
		for _, all := range []bool{true, false} {
			var names []string
			var l []made
			for i := range params {
				at := (k + i) % len(params)
				if p := params[at]; all || wrap.Is(p.T) && !p.Has {
					names = append(names, p.Name)
					l = append(l, values[at][(k+3*i)%len(values[at])])
				}
			}
			out = append(out, join(l, func(l []made) api.Value {
				v := mapped()
				for j, m := range l {
					v.M = append(v.M, member(names[j], m.v))
				}
				return v
			}))
		}
	}
	return out
}

// P10.1, P10.2: values that are made to be right for a type, and told where their Vars are.
func TestMade(t *testing.T) {
	s := schema(t, plain)
	count := 0
	for _, name := range append(scalarNames(), "E", "I", "J", "K", "Loop", "Query", "Z") {
		for lists := range 3 {
			for musts := range 2 << lists {
				x := api.Type{Name: name, Lists: lists, Musts: musts}
				for _, m := range makes(s, x, musts%3 == 0, 3) {
					spotsAre(t, s, x, musts%3 == 0, m.v, m.spots)
					count++
				}
				if t.Failed() {
					return
				}
			}
		}
	}
	if count < 10000 {
		t.Errorf("only %d values are made", count)
	}
}
