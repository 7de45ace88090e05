package sdl_test

import (
	"fmt"
	"maps"
	"slices"
	"strings"
	"testing"

	"seine/api"
	"seine/sdl"
)

// show tells a schema, whatever it is; a nil list and an empty one are the same.
func show(s api.Schema) string {
	out := strings.ReplaceAll(fmt.Sprintf("%#v", s), "(nil)", "{}")
	return strings.ReplaceAll(out, "api.", "")
}

func typ(name string, lists, musts int) api.Type {
	return api.Type{Name: name, Lists: lists, Musts: musts}
}

func number(n int64) api.Value { return api.Value{Kind: api.Int, N: n} }

func said(kind int, s string) api.Value { return api.Value{Kind: kind, S: s} }

func list(l ...api.Value) api.Value { return api.Value{Kind: api.List, L: l} }

func mapped(l ...api.Member) api.Value { return api.Value{Kind: api.Map, M: l} }

func member(name string, v api.Value) api.Member { return api.Member{Name: name, V: v} }

func dir(name string, l ...api.Member) api.Dir { return api.Dir{Name: name, Args: l} }

// param is a parameter without a default, given is one with a default.
func param(name, of string) api.Param { return api.Param{Name: name, T: typ(of, 0, 0)} }

func given(name, of string, v api.Value) api.Param {
	return api.Param{Name: name, T: typ(of, 0, 0), Has: true, Default: v}
}

func field(name, of string, l ...api.Param) api.FieldDef {
	return api.FieldDef{Name: name, Params: l, T: typ(of, 0, 0)}
}

func directed(f api.FieldDef, l ...api.Dir) api.FieldDef {
	f.Dirs = l
	return f
}

func object(name string, l ...api.FieldDef) api.Def {
	return api.Def{Kind: api.Object, Name: name, Fields: l}
}

func face(name string, l ...api.FieldDef) api.Def {
	return api.Def{Kind: api.Face, Name: name, Fields: l}
}

// faced is a definition that has interfaces.
func faced(d api.Def, l ...string) api.Def {
	d.Faces = l
	return d
}

func union(name string, l ...string) api.Def {
	return api.Def{Kind: api.Union, Name: name, Parts: l}
}

func enum(name string, l ...string) api.Def {
	return api.Def{Kind: api.Enums, Name: name, Parts: l}
}

func input(name string, l ...api.Param) api.Def {
	return api.Def{Kind: api.Input, Name: name, Params: l}
}

// of is a schema of a Query `Query` and definitions.
func of(l ...api.Def) api.Schema { return api.Schema{Query: "Query", Defs: l} }

// reads holds what Read answers against schemas that are written out.
func reads(t *testing.T, all map[string]api.Schema) {
	t.Helper()
	for _, s := range slices.Sorted(maps.Keys(all)) {
		if got, e := sdl.Read(s); e != api.OK || show(got) != show(all[s]) {
			t.Errorf("Read(%s) = %s, %d, want %s", s, show(got), e, show(all[s]))
		}
	}
}

// refuses holds the errors of Read against those wanted.
func refuses(t *testing.T, want api.Errno, l ...string) {
	t.Helper()
	for _, s := range l {
		if got, e := sdl.Read(s); e != want || show(got) != show(api.Schema{}) {
			t.Errorf("Read(%.200s) = %.300s, %d, want the error %d", s, show(got), e, want)
		}
	}
}

// P8.1: each kind of definition, several of them, and a text that is empty.
func TestDefinitions(t *testing.T) {
	a := field("a", "B")
	reads(t, map[string]api.Schema{
		"type A{a:B}":                            of(object("A", a)),
		"interface A{a:B}":                       of(face("A", a)),
		"union A=B":                              of(union("A", "B")),
		"enum A{B}":                              of(enum("A", "B")),
		"input A{a:B}":                           of(input("A", param("a", "B"))),
		"schema{query:Q}":                        {Query: "Q"},
		"type A{a:B}type A{a:B}enum A{B}":        of(object("A", a), object("A", a), enum("A", "B")),
		"enum A{B}union C=D|E type F{a:B}":       of(enum("A", "B"), union("C", "D", "E"), object("F", a)),
		"input A{a:B}interface C{a:B}":           of(input("A", param("a", "B")), face("C", a)),
		"union A=B union C=D union type=union":   of(union("A", "B"), union("C", "D"), union("type", "union")),
		"type type{type:type}enum enum{enum}":    of(object("type", field("type", "type")), enum("enum", "enum")),
		"input input{input:input}":               of(input("input", param("input", "input"))),
		"interface interface{interface:schema}":  of(face("interface", field("interface", "schema"))),
		"type schema{query:Q}type true{null:on}": of(object("schema", field("query", "Q")), object("true", field("null", "on"))),
		"enum null{on type query}":               of(enum("null", "on", "type", "query")),
		"\ufeff#x\n,,type A,{,a,:,B,},":          of(object("A", a)),
		"type\tA\r\n{\na#:\n:B}":                 of(object("A", a)),
	})
	refuses(t, api.ErrForm, "", " ", ",", "#type A{a:B}", "\ufeff", "A", "{", "}", "{a:B}", "type", "interface", "union", "enum", "input", "schema", "type A", "type{a:B}", "type A A{a:B}", "type 1{a:B}", "type \"A\"{a:B}", "type $A{a:B}", "type A:B{a:B}", "type A=B", "type A=|B", "type A!{a:B}", "type A@d{a:B}", "type A(b:C){a:B}", "type [A]{a:B}", "type A[a:B]", "type A(a:B)", "type A{a:B}}", "type A{a:B},A", "type A{a:B}{b:C}", "type A{{a:B}}",
		"Type A{a:B}", "types A{a:B}", "typeA{a:B}", "\"type\" A{a:B}", "object A{a:B}", "face A{a:B}", "enums A{B}", "unions A=B", "inputs A{a:B}", "scalar A", "extend type A{a:B}", "directive @d on FIELD", "subscription{a}", "query{a}", "{a}", "fragment F on T{a}", "mutation", "schemas{query:Q}", "implements A", "null", "true{a:B}")
}

// P8.1 and P8.2: the definition of the schema itself.
func TestSchema(t *testing.T) {
	a, m := object("A", field("a", "B")), object("Mutation", field("a", "B"))
	reads(t, map[string]api.Schema{
		"schema{query:Q}":                                         {Query: "Q"},
		"schema{query:Q mutation:M}":                              {Query: "Q", Mutation: "M"},
		"schema{query:Q,mutation:Q}":                              {Query: "Q", Mutation: "Q"},
		"schema{query:query}":                                     {Query: "query"},
		"schema{query:mutation}":                                  {Query: "mutation"},
		"schema{query:mutation mutation:on}":                      {Query: "mutation", Mutation: "on"},
		"schema{query:schema mutation:query}":                     {Query: "schema", Mutation: "query"},
		"schema{query:null mutation:true}":                        {Query: "null", Mutation: "true"},
		"schema{query:Q mutation:mutation}":                       {Query: "Q", Mutation: "mutation"},
		"schema{query:Query}":                                     {Query: "Query"},
		"schema{query:A}type A{a:B}":                              {Query: "A", Defs: []api.Def{a}},
		"type A{a:B}schema{query:A}":                              {Query: "A", Defs: []api.Def{a}},
		"type A{a:B}schema{query:A mutation:N}type Mutation{a:B}": {Query: "A", Mutation: "N", Defs: []api.Def{a, m}},
		"union U=B schema{query:U}union V=schema":                 {Query: "U", Defs: []api.Def{union("U", "B"), union("V", "schema")}},
	})
	refuses(t, api.ErrForm, "schema", "schema{", "schema{}", "schema{query", "schema{query:", "schema{query:Q", "schema{query}", "schema{query:}", "schema{query Q}", "schema{query=Q}", "schema{:Q}", "schema{Q}", "schema{query:\"Q\"}", "schema{query:1}", "schema{query:$Q}", "schema{query:Q!}", "schema{query:[Q]}", "schema{query:{Q}}", "schema{query:Q{}", "schema{query:Q}}", "schema{{query:Q}}", "schema query:Q", "schema(query:Q)", "schema[query:Q]", "schema:{query:Q}", "schema={query:Q}", "schema S{query:Q}", "schema @d{query:Q}", "schema{query:Q @d}", "schema{Query:Q}", "schema{\"query\":Q}", "schema{queries:Q}", "schema{query:Q R}", "schema{query::Q}",
		"schema{mutation:M}", "schema{mutation:M query:Q}", "schema{query:Q query:Q}", "schema{query:Q mutation}", "schema{query:Q mutation:}", "schema{query:Q mutation:M", "schema{query:Q mutation M}", "schema{query:Q mutation:\"M\"}", "schema{query:Q mutation:M mutation:M}", "schema{query:Q mutation:M query:Q}", "schema{query:Q mutation:M subscription:S}", "schema{query:Q subscription:S}", "schema{query:Q Mutation:M}", "schema{query:Q & mutation:M}", "schema{query:Q mutation:M!}", "schema{query:Q mutation:[M]}")
	refuses(t, api.ErrForm, "schema{query:Q}schema{query:Q}", "schema{query:Q}schema{query:Q mutation:M}", "schema{query:Q}type A{a:B}schema{query:Q}", "type A{a:B}schema{query:Q}schema{query:Q}", "schema{query:Q}enum A{B}schema", "schema{query:Q}\"d\"schema{query:Q}", "schema{query:Q}union A=B schema{query:Q}", "schema{query:Q}schema{query:Q}schema{query:Q}")
}

// P8.2: the names of the operations where no definition tells them.
func TestUntoldNames(t *testing.T) {
	for _, form := range []string{"type %s{a:B}", "interface %s{a:B}", "union %s=B", "enum %s{B}", "input %s{a:B}"} {
		for name, mutation := range map[string]string{"Mutation": "Mutation", "Query": "", "mutation": "", "query": "", "A": "", "Mutations": "", "MUTATION": "", "_Mutation": ""} {
			def := fmt.Sprintf(form, name)
			for _, s := range []string{def, def + " enum A{B}", "type Query{a:Mutation}" + def, "\"Mutation\" " + def, "interface A implements Mutation{Mutation(Mutation:Mutation):Mutation@Mutation}union U=Mutation enum E{Mutation}" + def, def + " " + def} {
				if got, e := sdl.Read(s); e != api.OK || got.Query != "Query" || got.Mutation != mutation {
					t.Errorf("Read(%s): Query %q, Mutation %q, %d", s, got.Query, got.Mutation, e)
				}
			}
			for _, s := range []string{def + " schema{query:Q}", "schema{query:Q}" + def, "\"d\"schema{query:Q}type Mutation{a:B}" + def} {
				if got, e := sdl.Read(s); e != api.OK || got.Query != "Q" || got.Mutation != "" {
					t.Errorf("Read(%s): Query %q, Mutation %q, %d", s, got.Query, got.Mutation, e)
				}
			}
		}
	}
}

// P8.1: types and interfaces, which may have interfaces.
func TestFaces(t *testing.T) {
	a := field("a", "B")
	for word, d := range map[string]api.Def{"type ": object("A", a), "interface ": face("A", a)} {
		all := map[string]api.Schema{}
		for s, faces := range map[string][]string{
			"":                          nil,
			" implements I":             {"I"},
			" implements&I":             {"I"},
			" implements I&J":           {"I", "J"},
			" implements&I&J & K":       {"I", "J", "K"},
			" implements I&I&A":         {"I", "I", "A"},
			" implements implements":    {"implements"},
			" implements implements&on": {"implements", "on"},
			" implements & implements":  {"implements"},
			" implements null&true":     {"null", "true"},
		} {
			all[word+"A"+s+"{a:B}"] = of(faced(d, faces...))
		}
		reads(t, all)
		for _, s := range []string{" implements", " implements&", " implements&&I", " implements I&", " implements I&&J", " implements I J", " implements I,J", " implements I|J", " implements|I", " implements:I", " implements=I", " implements \"I\"", " implements 1", " implements I!", " implements [I]", " implements {I}", " implements (I)", " implements I@d", " implements I & \"J\"", " &I", " I", ":I", " Implements I", " extends I", " implements I implements J", " \"implements\" I"} {
			refuses(t, api.ErrForm, word+"A"+s+"{a:B}", word+"A"+s)
		}
	}
	reads(t, map[string]api.Schema{"type implements implements implements{a:B}": of(faced(object("implements", a), "implements"))})
	refuses(t, api.ErrForm, "type implements A{a:B}", "union U implements I=A", "enum E implements I{A}", "input N implements I{a:B}", "schema implements I{query:Q}")
}

// P8.1: unions and enums.
func TestParts(t *testing.T) {
	reads(t, map[string]api.Schema{
		"union U=A":                     of(union("U", "A")),
		"union U=|A":                    of(union("U", "A")),
		"union U=A|B":                   of(union("U", "A", "B")),
		"union U = | A | B | A":         of(union("U", "A", "B", "A")),
		"union U=true|null|false":       of(union("U", "true", "null", "false")),
		"union U=type type T{a:B}":      of(union("U", "type"), object("T", field("a", "B"))),
		"union U=|union|enum enum E{A}": of(union("U", "union", "enum"), enum("E", "A")),
		"enum E{A}":                     of(enum("E", "A")),
		"enum E{A B,A}":                 of(enum("E", "A", "B", "A")),
		"enum E{on type E}":             of(enum("E", "on", "type", "E")),
		"enum E{True FALSE nulls _}":    of(enum("E", "True", "FALSE", "nulls", "_")),
	})
	refuses(t, api.ErrForm, "union", "union U", "union U=", "union U=|", "union U=||A", "union U=A|", "union U=A||B", "union U=A B", "union U=A,B", "union U=A&B", "union U=&A", "union U:A", "union U A", "union U|A", "union =A", "union U==A", "union U={A}", "union U{A}", "union U={A|B}", "union U=[A]", "union U=A!", "union U=\"A\"", "union U=A|\"B\"", "union U=1", "union U=$A", "union U=A@d", "union U@d=A", "union U=A|B=C", "union U=A{a:B}")
	refuses(t, api.ErrForm, "enum", "enum E", "enum E{", "enum E{}", "enum{A}", "enum E A", "enum E=A", "enum E=A|B", "enum E={A}", "enum E{A", "enum E{A}}", "enum E{A|B}", "enum E{A&B}", "enum E{A:B}", "enum E{A=1}", "enum E{\"A\"}", "enum E{1}", "enum E{1.5}", "enum E{$A}", "enum E{A!}", "enum E{[A]}", "enum E{{A}}", "enum E{A@d}", "enum E@d{A}", "enum E[A]", "enum E(A)", "enum E{A(a:B)}", "enum E{...}")
	for _, s := range []string{"true", "false", "null"} {
		refuses(t, api.ErrForm, "enum E{"+s+"}", "enum E{A "+s+"}", "enum E{"+s+" A}", "enum E{\"d\""+s+"}", "enum E{A "+s+" B}type A{a:B}")
	}
}

// P8.1: fields, with and without parameters and directives.
func TestFields(t *testing.T) {
	one, two := dir("d", member("x", number(1))), dir("e")
	for s, f := range map[string]api.FieldDef{
		"a:B":                             field("a", "B"),
		"a : B":                           field("a", "B"),
		"on:on":                           field("on", "on"),
		"null:true":                       field("null", "true"),
		"a:B!":                            {Name: "a", T: typ("B", 0, 1)},
		"a:[B!]":                          {Name: "a", T: typ("B", 1, 2)},
		"a:[[B]!]":                        {Name: "a", T: typ("B", 2, 2)},
		"a(b:C):D":                        field("a", "D", param("b", "C")),
		"a(b:C,d:E b:F):D":                field("a", "D", param("b", "C"), param("d", "E"), param("b", "F")),
		"a(b:C=1):D":                      field("a", "D", given("b", "C", number(1))),
		"a(b:C=1 d:E):D":                  field("a", "D", given("b", "C", number(1)), param("d", "E")),
		"a(b:C=E d:E=F):D":                field("a", "D", given("b", "C", said(api.Enum, "E")), given("d", "E", said(api.Enum, "F"))),
		"a(b:C=null):D":                   field("a", "D", given("b", "C", api.Value{})),
		"a(b:[C!]!={c:[\"d\"]}):D":        field("a", "D", api.Param{Name: "b", T: typ("C", 1, 3), Has: true, Default: mapped(member("c", list(said(api.Text, "d"))))}),
		"a:B@d(x:1)":                      directed(field("a", "B"), one),
		"a:B@e@d(x:1)@e":                  directed(field("a", "B"), two, one, two),
		"a:B!@e":                          directed(api.FieldDef{Name: "a", T: typ("B", 0, 1)}, two),
		"a(b:C=E):B@d(x:1)@on":            directed(field("a", "B", given("b", "C", said(api.Enum, "E"))), one, dir("on")),
		"a:B@d(x:\"1\"y:[E {z:2}]x:true)": directed(field("a", "B"), dir("d", member("x", said(api.Text, "1")), member("y", list(said(api.Enum, "E"), mapped(member("z", number(2))))), member("x", api.Value{Kind: api.Bool, N: 1}))),
	} {
		reads(t, map[string]api.Schema{
			"type A{" + s + "}":                            of(object("A", f)),
			"interface A{" + s + "}":                       of(face("A", f)),
			"type A{b:C " + s + " d:E}":                    of(object("A", field("b", "C"), f, field("d", "E"))),
			"type A{" + s + "," + s + "}":                  of(object("A", f, f)),
			"interface A implements I{" + s + "}enum E{A}": of(faced(face("A", f), "I"), enum("E", "A")),
		})
	}
	for _, s := range []string{"", "a", "a:", ":B", "a B", "a=B", "a::B", "a:B:C", "a:B=1", "1:B", "\"a\":B", "$a:B", "a!:B", "a:1", "a:\"B\"", "a:$B", "a:!B", "a:B!!", "a:[B", "a:B]", "a:[]", "a:[B C]", "a:{B}", "a:(B)", "a:B|C", "a:B&C", "{a:B}", "(a:B)", "[a:B]", "...a:B", "a:B}", "a:B b", "b a:B", "@d a:B", "a@d:B", "b:a:B",
		"a():B", "a(:B", "a(b:C:D", "a(b:C)", "a(b:C)B", "a(b):C", "a(b:):C", "a(:C):D", "a(b C):D", "a(b=1):D", "a(b:C=):D", "a(b:C==1):D", "a(b:C 1):D", "a(b:C=1 2):D", "a(b=1:C):D", "a(1:C):D", "a(\"b\":C):D", "a($b:C):D", "a(b:\"C\"):D", "a(b:1):D", "a(b:$C):D", "a(b:C@d):D", "a(b:C=1@d):D", "a(b(c:D):E):F", "a(b:C)(d:E):F", "a((b:C)):D", "a(b:C)):D", "a[b:C]:D", "a{b:C}:D", "a:B(c:D)", "a(b:[C):D", "a(b:C!!):D",
		"a:B@", "a:B@@d", "a:B@1", "a:B@\"d\"", "a:B@$d", "a:B@d()", "a:B@d(x)", "a:B@d(x:)", "a:B@d(x:1", "a:B@d(x:1)(y:1)", "a:B@d{x:1}", "a:B@d:e", "a:B@d(x:1 y)", "a:B@d(x=1)", "a:B@d(\"x\":1)", "a:B@d(x::1)", "a:B@d(x:[1)", "a:B@d(x:{y})", "a:B@d!", "a:B@d(x:1)=1"} {
		refuses(t, api.ErrForm, "type A{"+s+"}", "interface A{"+s+"}", "type A{b:C "+s+"=}", "type A implements I{"+s+"}type B{a:B}")
	}
	refuses(t, api.ErrForm, "type A{}", "interface A{}", "type A{a:B", "type A{a:B b", "type A{a(b:C", "type A{a(b:C)", "type A{a:B@d(x:1", "type A{", "type A implements I", "type A implements I{", "type A implements I{}")
}

// P8.1: parameters of an input.
func TestInputs(t *testing.T) {
	for s, p := range map[string]api.Param{
		"a:B":                     param("a", "B"),
		"on:null":                 param("on", "null"),
		"a:[B!]!":                 {Name: "a", T: typ("B", 1, 3)},
		"a:B=1":                   given("a", "B", number(1)),
		"a:B=-0":                  given("a", "B", number(0)),
		"a:B=null":                given("a", "B", api.Value{}),
		"a:B=false":               given("a", "B", api.Value{Kind: api.Bool}),
		"a:B=a":                   given("a", "B", said(api.Enum, "a")),
		"a:B=\"$b\"":              given("a", "B", said(api.Text, "$b")),
		"a:B=\"\"\"\n  x\n\"\"\"": given("a", "B", said(api.Text, "x")),
		"a:B=1.50":                given("a", "B", said(api.Num, "1.50")),
		"a:B=9223372036854775807": given("a", "B", number(1<<63-1)),
		"a:B=9223372036854775808": given("a", "B", said(api.Num, "9223372036854775808")),
		"a:B=[]":                  given("a", "B", list()),
		"a:B={}":                  given("a", "B", mapped()),
		"a:B=[[1]{c:E}]":          given("a", "B", list(list(number(1)), mapped(member("c", said(api.Enum, "E"))))),
	} {
		reads(t, map[string]api.Schema{
			"input A{" + s + "}":               of(input("A", p)),
			"input A{b:C " + s + " d:E}":       of(input("A", param("b", "C"), p, param("d", "E"))),
			"input A{" + s + "," + s + "}":     of(input("A", p, p)),
			"type A{a(" + s + " " + s + "):B}": of(object("A", field("a", "B", p, p))),
		})
	}
	for _, s := range []string{"", "a", "a:", ":B", "a B", "a=1", "a:B=", "a:B==1", "a:B=!", "a:B=1 2", "a:B=@d", "a:B@d", "a:B=1@d", "a(b:C):D", "{a:B}", "[a:B]", "(a:B)", "1:B", "\"a\":B", "$a:B", "a:\"B\"", "a:1", "a:[B", "a:B]", "a:[]", "a:B=[", "a:B=[1", "a:B={", "a:B={b", "a:B={b}", "a:B={b:}", "a:B={b:1", "a:B={b=1}", "a:B={1:1}", "a:B={\"b\":1}", "a:B=]", "a:B=}", "a:B=)", "a:B=(1)", "a:B=...", "a:B=|C", "a:B|C", "a&B"} {
		refuses(t, api.ErrForm, "input A{"+s+"}", "input A{b:C "+s+"=}", "type A{a("+s+"):B}")
	}
	refuses(t, api.ErrForm, "input", "input A", "input A{}", "input{a:B}", "input A=a", "input A{a:B", "input A{a:B=1", "input A(a:B)", "input A@d{a:B}")
}

// P8.1: values of parameters and of directives have no Var.
func TestFixed(t *testing.T) {
	forms := []string{"input A{a:B=%s}", "input A{b:C=1 a:B=%s c:D}", "type A{a(b:C=%s):D}", "interface A{a(c:D b:C=%s):D}", "type A{a:B@d(x:%s)}", "interface A{a:B@c@d(y:1 x:%s)@e b:C}", "schema{query:Q}type A{b:C a(c:D=1):B@d(x:%s)}"}
	for _, form := range forms {
		for _, s := range []string{"$a", "$", "[$a]", "[1 $a]", "[[$a]]", "{a:$a}", "{a:[{b:$a}]}", "{$a:1}", "$1", "$$a", "$\"a\"", "$true"} {
			refuses(t, api.ErrForm, fmt.Sprintf(form, s))
		}
		for _, s := range []string{"a", "\"$a\"", "[]", "{}", "[a \"$a\"]", "{a:a}", "null", "[[[null]]]"} {
			if got, e := sdl.Read(fmt.Sprintf(form, s)); e != api.OK || len(got.Defs) != 1 {
				t.Errorf("Read of %s with %s: %s, %d", form, s, show(got), e)
			}
		}
	}
}

// marked puts s at the k-th `?` of a form, and nothing at the others.
func marked(form string, k int, s string) string {
	parts := strings.Split(form, "?")
	return strings.Join(parts[:k+1], "") + s + strings.Join(parts[k+1:], "")
}

// P8.1: a Quote ahead of a definition, a field, a parameter, a value of an enum, and nowhere else.
func TestQuotes(t *testing.T) {
	quotes := []string{`""`, `"d"`, `"type"`, `"\u0041 \" {"`, "\"\"\"d\"\"\"", "\"\"\"\n  \\\"\"\" $ ?\n\"\"\""}
	for _, form := range []string{
		"? schema{query:Q mutation:M} ? type A implements I&J{? a(? b:C=1,? d:[E!]):F@g(x:\"y\")@h ? i:J} ? enum K{? L ? M}",
		"? type A{? a:B ? c:D}",
		"? interface A implements&I{? a:B!@d ? c(? e:F):D}",
		"? enum A{? B,? C ? on}? union A=|B|C ? union D=E",
		"? input A{? a:B ? c:D=\"e\" ? f:G=[\"h\" \"i\"]}? schema{query:Q}? input B{? a:B={b:\"c\"}}",
	} {
		want, e := sdl.Read(strings.ReplaceAll(form, "?", ""))
		if e != api.OK {
			t.Fatalf("%s: the error %d", form, e)
		}
		for _, quote := range quotes {
			reads(t, map[string]api.Schema{strings.ReplaceAll(form, "?", quote): want})
			for k := range strings.Count(form, "?") {
				reads(t, map[string]api.Schema{marked(form, k, quote): want})
				refuses(t, api.ErrForm, marked(form, k, quote+" "+quote), marked(form, k, "1"), marked(form, k, "|"))
			}
		}
	}
}

// P8.1: places where no Quote may stand.
func TestMisplacedQuotes(t *testing.T) {
	for _, form := range []string{
		"schema?{query:Q mutation:M}", "schema{?query:Q mutation:M}", "schema{query?:Q mutation:M}", "schema{query:?Q mutation:M}", "schema{query:Q?mutation:M}", "schema{query:Q mutation?:M}", "schema{query:Q mutation:?M}", "schema{query:Q mutation:M?}", "schema{query:Q}?",
		"type?A{a:B}", "type A?{a:B}", "type A{a?:B}", "type A{a:?B}", "type A{a:B?}", "type A{a:B}?", "type A?implements I{a:B}", "type A implements?I{a:B}", "type A implements?&I{a:B}", "type A implements&?I{a:B}", "type A implements I?{a:B}", "type A implements I?&J{a:B}", "type A{a:[?B]}", "type A{a:[B?]}", "type A{a:B?!}",
		"type A{a?(b:C):D}", "type A{a(b?:C):D}", "type A{a(b:?C):D}", "type A{a(b:C?):D}", "type A{a(b:C)?:D}", "type A{a(b:C?=1):D}", "type A{a(b:C=1?):D}", "type A{a(b:C=?1):D}", "type A{a:B?@d}", "type A{a:B@?d}", "type A{a:B@d?}", "type A{a:B@d?(x:1)}", "type A{a:B@d(?x:1)}", "type A{a:B@d(x?:1)}", "type A{a:B@d(x:?1)}", "type A{a:B@d(x:1?)}", "type A{a:B@d(x:1?y:2)}", "type A{a:B@d(x:1)?}", "type A{a:B@d(x:{?y:1})}",
		"union?U=A", "union U?=A", "union U=?A", "union U=?|A", "union U=|?A", "union U=A?|B", "union U=A|?B", "union U=A?", "enum?E{A}", "enum E?{A}", "enum E{A?}", "enum E{A}?", "input?A{a:B}", "input A?{a:B}", "input A{a?:B}", "input A{a:?B}", "input A{a:B?}", "input A{a:B?=1}", "input A{a:B=1?}", "input A{a:B={?b:1}}", "input A{a:B}?", "?", "??", "??type A{a:B}",
	} {
		refuses(t, api.ErrForm, strings.ReplaceAll(form, "?", `"d"`), strings.ReplaceAll(form, "?", "\"\"\"d\"\"\""), strings.ReplaceAll(form, "?", `"true"`))
	}
}
