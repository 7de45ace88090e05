package literal_test

import (
	"math"
	"testing"

	"seine/api"
	"seine/literal"
)

// goods are values of each Kind that may be.
func goods() []api.Value {
	return []api.Value{
		{}, {Kind: api.Bool}, {Kind: api.Bool, N: 1}, number(0), number(1), number(math.MinInt64), single(api.Num, "1.5"), single(api.Num, "9223372036854775808"),
		single(api.Text, ""), single(api.Text, "X"), single(api.Enum, "X"), variable("v"), list(), list(number(1)), list(list()), list(api.Value{}), list(variable("v")), mapped(), mapped(member("a", number(1))), mapped(member("", api.Value{})),
	}
}

// bads are values that may not be: each Kind with a part that does not belong to
// it, or that is wrong, and Kinds that there are not.
func bads() []api.Value {
	out := []api.Value{
		{N: 1}, {S: "a"}, {L: []api.Value{{}}}, {M: []api.Member{{}}},
		{Kind: api.Bool, N: 2}, {Kind: api.Bool, N: -1}, {Kind: api.Bool, S: "true"},
		{Kind: api.Int, S: "1"}, {Kind: api.Int, N: 1, L: []api.Value{number(1)}}, {Kind: api.Int, M: []api.Member{{}}},
		single(api.Num, ""), single(api.Num, "1"), single(api.Num, "a"), {Kind: api.Num, N: 1, S: "1.5"},
		single(api.Text, "\xff"), {Kind: api.Text, N: 1, S: "a"}, {Kind: api.Text, S: "a", L: []api.Value{{}}},
		single(api.Enum, ""), single(api.Enum, "true"), single(api.Enum, "null"), single(api.Enum, "a b"), {Kind: api.Enum, N: 1, S: "X"},
		variable(""), variable("1"), variable("a b"), variable("$v"), variable("\xff"), {Kind: api.Var, N: 1, S: "v"}, {Kind: api.Var, S: "v", L: []api.Value{{}}},
		{Kind: api.List, N: 1}, {Kind: api.List, S: "a"}, {Kind: api.List, M: []api.Member{{}}},
		{Kind: api.Map, N: 1}, {Kind: api.Map, S: "a"}, {Kind: api.Map, L: []api.Value{{}}}, mapped(member("\xff", number(1))),
	}
	for _, kind := range []int{-1, 9, 10, 256, 1 << 32, 1<<32 + 2, math.MaxInt, math.MinInt} {
		out = append(out, api.Value{Kind: kind}, single(kind, "a"), api.Value{Kind: kind, N: 1})
	}
	return out
}

// P10.1: a value that may not be is right nowhere, nor is one that it stands in.
func TestNotGood(t *testing.T) {
	s := of(input("I", param("a", "I"), param("", "Z"), param("\xff", "Int"), param("b", "Int"), api.Param{Name: "l", T: api.Type{Name: "I", Lists: 2}}), enum("E", "X", "", "a b", "true"))
	for _, v := range bads() {
		for _, name := range append(scalarNames(), "I", "E", "Z", "Query") {
			for lists := range 5 {
				rightIs(t, s, api.Type{Name: name, Lists: lists}, v, false)
				rightIs(t, s, api.Type{Name: name, Lists: lists}, list(v), false)
				rightIs(t, s, api.Type{Name: name, Lists: lists, Musts: 2<<lists - 1}, list(variable("v"), list(v)), false)
			}
		}
		for _, in := range []api.Value{
			mapped(member("a", v)), mapped(member("b", v)), mapped(member("l", v)), mapped(member("b", number(1)), member("a", v)), mapped(member("a", v), member("b", number(1))),
			mapped(member("a", mapped(member("a", mapped(member("b", v)))))), mapped(member("l", list(list(mapped(member("a", v)))))), mapped(member("l", list(list(), v))),
		} {
			rightIs(t, s, named("I"), in, false)
			rightIs(t, s, api.Type{Name: "I", Lists: 2}, in, false)
		}
	}
	loose := api.Value{Kind: api.Int, N: 1, L: []api.Value{}, M: []api.Member{}}
	rightIs(t, s, named("Int"), loose, true)
	rightIs(t, s, named("I"), api.Value{Kind: api.Map, L: []api.Value{}, M: []api.Member{member("b", loose)}}, true)
}

// wrongs are types that may not be.
func wrongs() []api.Type {
	var out []api.Type
	for _, name := range []string{"", " ", "1", "a b", "Int!", "[Int]", "é", "\xff", "Int\x00"} {
		out = append(out, api.Type{Name: name}, api.Type{Name: name, Musts: 1}, api.Type{Name: name, Lists: 1}, api.Type{Name: name, Lists: 4, Musts: 31})
	}
	for _, name := range []string{"Int", "I", "E", "Z"} {
		for _, lists := range []int{-1, -2, 5, 6, 9, 31, 62, 63, 64, math.MaxInt, math.MinInt} {
			out = append(out, api.Type{Name: name, Lists: lists}, api.Type{Name: name, Lists: lists, Musts: 1})
		}
		for lists := range 5 {
			for _, musts := range []int{-1, -2, 2 << lists, 2<<lists + 1, 1 << 32, math.MaxInt, math.MinInt} {
				out = append(out, api.Type{Name: name, Lists: lists, Musts: musts})
			}
		}
	}
	return out
}

// P10.1: nothing is right for a type that may not be: no Var, no Null, no empty List.
func TestWrongTypes(t *testing.T) {
	s := of(input("I", param("a", "Int")), enum("E", "X"))
	for _, x := range wrongs() {
		s.Defs = append(s.Defs, input(x.Name, param("a", "Int")))
	}
	for _, x := range wrongs() {
		for _, v := range append(goods(), bads()...) {
			rightIs(t, s, x, v, false)
			literal.Spots(s, x, true, v)
		}
		for _, v := range goods() {
			asked := of(input("I", api.Param{Name: "a", T: x, Has: true}, param("b", "Int")))
			rightIs(t, asked, named("I"), mapped(member("a", v)), false)
			rightIs(t, asked, named("I"), mapped(member("b", number(1)), member("a", v)), false)
			rightIs(t, asked, named("I"), mapped(member("b", number(1))), true)
		}
	}
}

// P10.1: a Var is right for every type that may be, and Null for those that may be null, wherever they stand.
func TestVarAndNull(t *testing.T) {
	s := schema(t, plain)
	for _, name := range append(scalarNames(), "E", "I", "K", "Query", "Face", "Union", "Z", "z", "_", "Float", "null", "v") {
		for lists := range 5 {
			for musts := range 2 << lists {
				x := api.Type{Name: name, Lists: lists, Musts: musts}
				rightIs(t, s, x, variable("v"), true)
				rightIs(t, s, x, api.Value{}, musts%2 == 0)
				rightIs(t, s, x, list(), lists > 0)
				rightIs(t, s, x, list(variable("v"), variable("w")), lists > 0)
				rightIs(t, s, x, list(variable("v"), api.Value{}), lists > 0 && musts/2%2 == 0)
				rightIs(t, s, x, list(list(api.Value{})), lists > 1 && musts/4%2 == 0)
				in := of(input("In", api.Param{Name: "p", T: x}))
				rightIs(t, in, named("In"), mapped(member("p", variable("v"))), true)
				rightIs(t, in, named("In"), mapped(member("p", api.Value{})), musts%2 == 0)
				rightIs(t, in, named("In"), mapped(), musts%2 == 0)
			}
		}
	}
}

// P10.1: for a name that the schema has not, or has as something else, no other value is right.
func TestOtherNames(t *testing.T) {
	s := schema(t, plain)
	for kind := -2; kind < 9; kind++ {
		if kind != api.Enums && kind != api.Input {
			s.Defs = append(s.Defs, full(kind, "K"+string(rune('a'+2+kind))))
		}
	}
	s.Defs = append(s.Defs, full(api.Enums+1<<32, "Big"), full(api.Input-1<<32, "Small"))
	for _, name := range []string{"Z", "Query", "Face", "Union", "Ka", "Kb", "Kc", "Kd", "Ke", "Kf", "Ki", "Kj", "Kk", "Big", "Small", "Float", "int", "string", "Bool", "boolean", "Id", "X", "a"} {
		for _, v := range goods() {
			open := v.Kind == api.Null || v.Kind == api.Var
			rightIs(t, s, named(name), v, open)
			rightIs(t, s, api.Type{Name: name, Lists: 1, Musts: 1}, v, v.Kind == api.Var || v.Kind == api.List && (len(v.L) == 0 || v.L[0].Kind == api.Null || v.L[0].Kind == api.Var))
		}
	}
	for _, v := range goods() {
		rightIs(t, s, named("Kg"), v, v.Kind == api.Null || v.Kind == api.Var)
		rightIs(t, of(full(api.Enums, "A")), named("A"), v, v.Kind == api.Null || v.Kind == api.Var || v.Kind == api.Enum)
		rightIs(t, of(full(api.Input, "A")), named("A"), v, v.Kind == api.Null || v.Kind == api.Var || v.Kind == api.Map && len(v.M) == 1 && v.M[0].Name == "a" || v.Kind == api.Map && len(v.M) == 0)
	}
}

// P10.1: no Def replaces a Scalar.
func TestTakenNames(t *testing.T) {
	right := map[string]func(v api.Value) bool{
		"Int":     func(v api.Value) bool { return v.Kind == api.Int && v.N >= 0 },
		"String":  func(v api.Value) bool { return v.Kind == api.Text },
		"Boolean": func(v api.Value) bool { return v.Kind == api.Bool },
		"ID":      func(v api.Value) bool { return v.Kind == api.Text || v.Kind == api.Int },
	}
	for name, is := range right {
		for kind := range 7 {
			for _, s := range []api.Schema{{}, of(full(kind, name)), of(full(api.Input, "A"), full(kind, name), full(api.Enums, name))} {
				for _, v := range goods() {
					rightIs(t, s, named(name), v, v.Kind == api.Null || v.Kind == api.Var || is(v))
				}
			}
		}
	}
}

// P10.1: of two Defs with one Name the first one counts.
func TestDefsTwice(t *testing.T) {
	e, f := enum("A", "X"), enum("A", "Y")
	i, j := input("A", param("a", "Int")), input("A", must(param("b", "Int")))
	x, y, a, b, none := single(api.Enum, "X"), single(api.Enum, "Y"), mapped(member("a", number(1))), mapped(member("b", number(1))), mapped()
	for _, c := range []struct {
		first, second api.Def
		want          [5]bool
	}{
		{e, f, [5]bool{true}}, {f, e, [5]bool{1: true}}, {e, i, [5]bool{true}}, {f, j, [5]bool{1: true}},
		{i, j, [5]bool{2: true, 4: true}}, {j, i, [5]bool{3: true}}, {i, e, [5]bool{2: true, 4: true}}, {j, f, [5]bool{3: true}},
		{full(api.Object, "A"), i, [5]bool{}}, {full(api.Scalar, "A"), e, [5]bool{}}, {full(9, "A"), j, [5]bool{}}, {e, full(api.Object, "A"), [5]bool{true}},
	} {
		for k, v := range []api.Value{x, y, a, b, none} {
			rightIs(t, of(c.first, c.second), named("A"), v, c.want[k])
			rightIs(t, of(enum("B", "Y"), c.first, input("B"), c.second, c.second), api.Type{Name: "A", Lists: 2, Musts: 7}, list(list(v)), c.want[k])
		}
	}
}

// P10.1: of two Params with one Name the first one says what is right; one member is enough for both, where any has to be there.
func TestParamsTwice(t *testing.T) {
	text, num := single(api.Text, "1"), number(1)
	for _, x := range []struct {
		params           []api.Param
		empty, text, num bool
	}{
		{[]api.Param{param("a", "Int"), param("a", "String")}, true, false, true},
		{[]api.Param{param("a", "String"), param("a", "Int")}, true, true, false},
		{[]api.Param{param("a", "ID"), param("a", "Int"), param("a", "Z")}, true, true, true},
		{[]api.Param{param("a", "Z"), param("a", "ID")}, true, false, false},
		{[]api.Param{param("a", "a b"), param("a", "ID")}, true, false, false},
		{[]api.Param{must(param("a", "Int")), param("a", "String")}, false, false, true},
		{[]api.Param{param("a", "Int"), must(param("a", "String"))}, false, false, true},
		{[]api.Param{has(must(param("a", "Int"))), must(param("a", "String"))}, false, false, true},
		{[]api.Param{must(param("a", "Int")), has(must(param("a", "String")))}, false, false, true},
		{[]api.Param{has(must(param("a", "Int"))), has(must(param("a", "Int")))}, true, false, true},
	} {
		s := of(input("I", x.params...))
		rightIs(t, s, named("I"), mapped(), x.empty)
		rightIs(t, s, named("I"), mapped(member("a", text)), x.text)
		rightIs(t, s, named("I"), mapped(member("a", num)), x.num)
		rightIs(t, s, named("I"), mapped(member("a", num), member("a", text)), false)
		rightIs(t, s, named("I"), mapped(member("a", num), member("a", num)), false)
	}
}

// P10.1: Names are held against each other byte by byte, whatever they are.
func TestNames(t *testing.T) {
	names := []string{"", "a", "A", "aa", " a", "a ", "á", "a\x00", "\U0001F600", "__typename", "null"}
	for _, one := range names {
		for _, two := range names {
			s := of(input("I", must(param(one, "Int"))))
			rightIs(t, s, named("I"), mapped(member(two, number(1))), one == two)
			rightIs(t, s, named("I"), mapped(member(one, number(1)), member(two, number(1))), false)
			s = of(input("I", param(one, "Int"), param(two, "Int"), param("z", "Int")))
			rightIs(t, s, named("I"), mapped(member(two, number(1)), member(one, number(1))), one != two)
			rightIs(t, s, named("I"), mapped(member(two, number(1)), member("z", number(1)), member(one, number(1))), one != two)
		}
	}
}
