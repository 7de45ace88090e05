package schema_test

import (
	"strings"
	"testing"

	"seine/api"
	"seine/value"
)

// P11.1, rule 1: what is not Right, though all else is as it has to be.
func TestNotRight(t *testing.T) {
	variable := api.Value{Kind: api.Var, S: "x"}
	deep := func(n int) api.Value {
		v := value.Int(1)
		for range n {
			v = api.Value{Kind: api.List, L: []api.Value{v}}
		}
		return v
	}
	for what, l := range map[string][]api.Def{
		"no Def is whole":          {{}},
		"a Scalar":                 {{Kind: api.Scalar, Name: "S"}},
		"a Kind that there is not": {{Kind: 6, Name: "S"}},
		"a negative Kind":          {{Kind: -1, Name: "S", Parts: names("X")}},
		"an Object without Fields": {object("A")},
		"a Face without Fields":    {face("A")},
		"a Union without Parts":    {union("A")},
		"an enum without Parts":    {enum("A")},
		"an Input without Params":  {input("A")},
		"an Object with Parts":     {{Kind: api.Object, Name: "A", Fields: []api.FieldDef{field("a", "Int")}, Parts: names("Query")}},
		"an Input with Faces":      {faced(input("A", param("a", "Int")), "F"), face("F", field("a", "Int"))},
		"a Union with Fields":      {{Kind: api.Union, Name: "A", Parts: names("Query"), Fields: []api.FieldDef{field("a", "Int")}}},
		"an enum with Params":      {{Kind: api.Enums, Name: "A", Parts: names("X"), Params: []api.Param{param("a", "Int")}}},
		"no Name":                  {enum("", "X")},
		"a Name that is none":      {enum("a b", "X")},
		"a Field without a Name":   {object("A", field("", "Int"))},
		"a Param without a Name":   {input("I", param("", "Int"))},
		"a Field without a type":   {object("A", field("a", ""))},
		"a type beyond its bounds": {object("A", api.FieldDef{Name: "a", T: api.Type{Name: "Int", Lists: 5}})},
		"a type's odd bits":        {object("A", api.FieldDef{Name: "a", T: api.Type{Name: "Int", Musts: 2}})},
		"a negative type":          {input("A", api.Param{Name: "a", T: api.Type{Name: "Int", Lists: -1}})},
		"a value of an enum":       {enum("E", "X", "null")},
		"a Var":                    {object("A", field("a", "Int", given("x", "Int", variable)))},
		"a Var in a list":          {input("A", given("x", "[Int]", api.Value{Kind: api.List, L: []api.Value{variable}}))},
		"no value":                 {input("A", given("x", "Int", api.Value{Kind: 9}))},
		"a value with more":        {input("A", given("x", "Int", api.Value{Kind: api.Int, N: 1, S: "1"}))},
		"a Default, but no Has":    {input("A", api.Param{Name: "x", T: typ("Int"), Default: value.Int(1)})},
		"a Default too deep":       {object("A", field("a", "Int", given("x", "Int", deep(17))))},
		"a directive without name": {object("A", api.FieldDef{Name: "a", T: typ("Int"), Dirs: []api.Dir{{}}})},
		"a Var in a directive":     {object("A", api.FieldDef{Name: "a", T: typ("Int"), Dirs: []api.Dir{{Name: "d", Args: []api.Member{{Name: "x", V: variable}}}}})},
	} {
		t.Run(what, func(t *testing.T) {
			is(t, of(append([]api.Def{query()}, l...)...), 1)
			is(t, of(append(l, query())...), 1)
			is(t, among(of(append(l, query())...)), 1)
		})
	}
	is(t, api.Schema{}, 1)
	is(t, api.Schema{Defs: []api.Def{query()}}, 1)
	is(t, api.Schema{Mutation: "Query", Defs: []api.Def{query()}}, 1)
	is(t, api.Schema{Query: "a b", Defs: []api.Def{query()}}, 1)
	is(t, api.Schema{Query: "Query", Mutation: "\xff", Defs: []api.Def{query()}}, 1)
	is(t, of(query(), object("A", field("a", "Int", given("x", "Int", deep(16))))), 9) // this one is Right
}

// kinds are definitions with this name of each kind, which may all be.
func kinds(name string) []api.Def {
	return []api.Def{object(name, field("a", "Int")), face(name, field("a", "Int")), union(name, "Query"), enum(name, "X"), input(name, param("a", "Int"))}
}

// P11.1, rule 1: two Defs with one Name, of whatever kinds, wherever they stand.
func TestDefsTwice(t *testing.T) {
	for _, one := range kinds("A") {
		is(t, of(query(), one), 0)
		for _, two := range kinds("A") {
			is(t, of(query(), one, two), 1)
			is(t, of(one, query(), two), 1)
			is(t, of(one, two, query(), enum("E", "X")), 1)
			is(t, of(one, enum("E", "X"), query(), enum("B", "X"), two), 1)
			is(t, of(query(), one, two, two, one), 1)
		}
		for _, two := range append(kinds("a"), append(kinds("AA"), kinds("A_")...)...) {
			is(t, of(query(), one, two), 0)
		}
	}
	for _, d := range kinds("Query") {
		is(t, of(query(), d), 1)
		is(t, of(d, query()), 1)
		is(t, of(d, enum("E", "X"), query()), 1)
	}
	each(t, 1, "type Query{a:Int}type Query{a:Int}", "type Query{a:Int}type Query{b:ID}", "type A{a:Int}union A=Query enum B{X}", "type Mutation{a:Int}type Mutation{a:Int}")
}

// P11.1, rule 1: names that no Def may have, and names that only look like these.
func TestTakenNames(t *testing.T) {
	for name, want := range map[string]int{
		"Int": 1, "String": 1, "Boolean": 1, "ID": 1, "__": 1, "___": 1, "__A": 1, "__a": 1, "__Schema": 1, "__typename": 1, "__9": 1, "__Query": 1,
		"Float": 0, "int": 0, "string": 0, "boolean": 0, "Id": 0, "id": 0, "Bool": 0, "INT": 0, "Ints": 0, "In": 0, "Strings": 0, "IDs": 0, "Int_": 0, "_Int": 0, "_": 0, "_A": 0, "_a_": 0, "A__": 0, "A__B": 0, "_1__": 0, "typename": 0, "Scalar": 0,
	} {
		for _, d := range kinds(name) {
			is(t, of(query(), d), want)
			is(t, of(d, query()), want)
			is(t, of(enum("E", "X"), query(), enum("F", "X"), d, enum("G", "X")), want)
		}
		d := object(name, field("a", "Int"))
		is(t, api.Schema{Query: name, Defs: []api.Def{d}}, want)
		is(t, api.Schema{Query: "Query", Mutation: name, Defs: []api.Def{d, query()}}, want)
	}
	each(t, 1, "schema{query:Int}type Int{a:Int}", "schema{query:__Q}type __Q{a:Int}", "type Query{a:__A}enum __A{X}", "union ID=Query")
}

// P11.1, rule 2: the names of Objects, and other names.
func TestOperations(t *testing.T) {
	s := read(t, plain)
	objects := map[string]bool{"Query": true, "Do": true, "A": true, "B": true, "C": true}
	all := append(names("Node Big Lone U V E I J Int String Boolean ID Float Z query QUERY Quer Queryy Mutation Subscription X a __typename __Q _ n"), "Query", "Do", "A", "B", "C")
	for _, query := range all {
		s.Query, s.Mutation = query, ""
		is(t, s, unless(objects[query], 2))
		for _, mutation := range all {
			s.Mutation = mutation
			is(t, s, unless(objects[query] && objects[mutation] && query != mutation, 2))
		}
	}
	is(t, of(), 2)
	is(t, api.Schema{Query: "Query", Mutation: "Query"}, 2)
	is(t, api.Schema{Query: "Q", Mutation: "M", Defs: []api.Def{object("M", field("a", "Int"))}}, 2)
	for k, d := range kinds("Query") {
		is(t, of(d, object("A", field("a", "Int"))), unless(k == 0, 2))
	}
	for k, d := range kinds("Mutation") {
		x := api.Schema{Query: "Query", Mutation: "Mutation", Defs: []api.Def{query(), d}}
		is(t, x, unless(k == 0, 2))
		x.Mutation = ""
		is(t, x, 0)
	}
	each(t, 2, "schema{query:Query}type A{a:Int}", "schema{query:Query mutation:Query}type Query{a:Int}", "enum Mutation{Query}", "input Mutation{Query:Int}", "interface Mutation{a:Int}type Query implements Mutation{a:Int}", "union Mutation=Query", "interface Query{a:Int}type A implements Query{a:Int}", "union Query=A type A{a:Int}", "enum Query{A}type A{a:Int}", "input Query{a:Int}type A{a:Int}", "schema{query:A mutation:Mutation}type A{a:Int}type Query{a:Int}")
	is(t, read(t, "type A{a:Int}"), 2)
}

// P11.1, rule 3: one thing twice, of each kind of Def, wherever it stands.
func TestPartsTwice(t *testing.T) {
	each(t, 3,
		"type Query{a:Int a:Int}", "type Query{a:Int a:ID}", "type Query{a:Int b:Int a:Int}", "type Query{b:Int c:Int a:Int a(x:Int):Int}", "type A{a:Int a:[A]}",
		"interface F{a:Int a:Int}", "interface F{b:Int a:Int c:Int a:ID d:Int}",
		"type A{a(x:Int x:Int):Int}", "type A{b:Int a(x:Int y:Int x:ID):Int}", "type A{a(x:Int):Int b(y:Int x:Int x:[Int]):Int}", "type A{a(x:Int x:Int=1):Int c:Int}",
		"interface F{a(x:Int x:Int):Int}", "interface F{b:Int a(y:Int x:Int x:Int!):Int c(z:Int):Int}",
		"input I{a:Int a:Int}", "input I{a:Int b:Int a:ID}", "input I{b:Int a:Int a:Int=2}",
		"union U=Query|Query", "union U=Query|A|Query type A{a:Int}", "union U=A|Query|Query type A{a:Int}",
		"enum E{X X}", "enum E{X Y X}", "enum E{Y X X}",
		"interface F{a:Int}type Query implements F&F{a:Int}", "interface F{a:Int}interface G implements F&F{a:Int}", "interface F{a:Int}interface G{a:Int}type A implements F&G&F{a:Int}", "interface F{a:Int}interface G{a:Int}interface H implements G&F&F{a:Int}",
		"union U=Z|Z", "type A implements Z&Z{a:Int}", "interface A implements A&A{a:Int}", "union U=U|U", "union U=Int|Int",
	)
	each(t, 0,
		"type Query{a:Int A:Int aa:Int a_:Int _a:Int}", "type Query{a(a:Int):Int b(a:Int):Int}", "type A{a:Int}type B{a:Int}", "interface F{a:Int}type A{a:Int}",
		"input I{a:Int A:Int}input J{a:Int A:Int}", "union U=Query union V=Query", "enum E{X x XX}enum F{X x XX}", "enum E{E Query Int a}", "interface F{a:Int}type A implements F{a:Int}type B implements F{a:Int}",
		"interface F{a(x:Int):Int}interface G implements F{a(x:Int):Int}type A implements G&F{a(x:Int):Int}",
	)
}

// P11.1, rule 3: names of Fields and Params that begin with `__`, and all other names that do.
func TestReservedNames(t *testing.T) {
	for name, want := range map[string]int{"__": 3, "___": 3, "__a": 3, "__A": 3, "__typename": 3, "__schema": 3, "__type": 3, "__1": 3, "_": 0, "_a": 0, "_1": 0, "_a__": 0, "a__": 0, "a__b": 0, "_a_b": 0, "typename": 0, "A": 0, "Int": 0, "Query": 0, "null": 0} {
		for _, d := range []api.Def{
			object("A", field(name, "Int")),
			object("A", field("a1", "Int"), field(name, "Int"), field("c", "Int")),
			face("A", field(name, "Int")),
			face("A", field("a1", "Int"), field("b1", "Int"), field(name, "Int")),
			object("A", field("a", "Int", param(name, "Int"))),
			object("A", field("a", "Int", param("x", "Int")), field("b", "Int", param("x", "Int"), param("y", "Int"), param(name, "Int"))),
			face("A", field("a", "Int", param(name, "Int"))),
			face("A", field("a", "Int", param("x", "Int"), given(name, "Int", value.Int(1)), param("y", "Int")), field("c", "Int")),
			input("A", param(name, "Int")),
			input("A", param("a1", "Int"), param("b1", "Int"), param(name, "[A]")),
			input("A", given(name, "Int", value.Int(1)), param("a1", "Int")),
		} {
			is(t, of(query(), d), want)
			is(t, of(d, query()), want)
		}
		is(t, of(object("Query", field("a1", "Int"), field(name, "Int"))), want)
		is(t, of(query(), enum("E", "X", name)), unless(name != "null", 1))
		if strings.HasPrefix(name, "__") { // for these, other rules stand
			is(t, of(query(), object("A", field("a", name))), 4)
			is(t, of(query(), input("A", param("a", name))), 4)
			is(t, of(query(), faced(object("A", field("a", "Int")), name)), 5)
			is(t, of(query(), union("A", name)), 7)
		}
	}
}

// P11.1, rule 4: each name as the type of each Field and of each Param.
func TestTypes(t *testing.T) {
	s := read(t, "type Query{a:Int}type O{a:Int}interface F{a:Int}union U=O enum E{X}input I{a:Int}")
	asField := map[string]bool{"Int": true, "String": true, "Boolean": true, "ID": true, "E": true, "O": true, "F": true, "U": true, "Query": true, "T": true}
	asParam := map[string]bool{"Int": true, "String": true, "Boolean": true, "ID": true, "E": true, "I": true}
	for _, name := range names("Int String Boolean ID E O F U I Query Float Mutation Z int Id X a o _ __O null __typename T") {
		for lists := range 5 {
			for musts := range 2 << lists {
				x := api.Type{Name: name, Lists: lists, Musts: musts}
				one, two := api.FieldDef{Name: "x", T: x}, api.Param{Name: "x", T: x}
				for _, d := range []api.Def{object("T", one), object("T", field("a", "Int"), one, field("b", "Int")), object("T", field("a", "O"), one)} {
					typed(t, s, d, asField[name])
				}
				for _, d := range []api.Def{face("K", one), face("K", field("a", "F"), field("b", "U", param("a", "I")), one)} {
					typed(t, s, d, asField[name] && name != "T")
				}
				for _, d := range []api.Def{
					object("K", field("a", "Int", two)), object("K", field("a", "Int", param("a", "I")), field("b", "O", param("a", "E"), two, param("b", "Int"))),
					face("K", field("a", "Int", two)), face("K", field("a", "Int"), field("b", "U", param("a", "ID"), two)),
					input("K", two), input("K", param("a", "I"), two, param("b", "E")), input("K", param("a", "K"), two),
				} {
					typed(t, s, d, asParam[name])
				}
			}
		}
	}
	is(t, of(object("Query", field("a", "Z"))), 4)
	is(t, of(object("Query", field("a", "Int", param("x", "Query")))), 4)
}

// typed holds what is told of s with d, ahead of the others and behind them.
func typed(t *testing.T, s api.Schema, d api.Def, right bool) {
	t.Helper()
	want := unless(right, 4)
	is(t, of(append([]api.Def{d}, s.Defs...)...), want)
	is(t, of(append(s.Defs[:len(s.Defs):len(s.Defs)], d)...), want)
}
