package schema_test

import (
	"fmt"
	"math"
	"slices"
	"strings"
	"testing"

	"seine/api"
	"seine/schema"
	"seine/sdl"
	"seine/value"
	"seine/wrap"
)

// read reads a text that is right.
func read(t *testing.T, text string) api.Schema {
	t.Helper()
	s, e := sdl.Read(text)
	if e != api.OK {
		t.Fatalf("%s is not read: %d", text, e)
	}
	return s
}

// show tells a schema as it is written, if it can be.
func show(s api.Schema) string {
	if text, ok := sdl.Print(s); ok {
		return text
	}
	return fmt.Sprintf("%+v", s)
}

// of makes a schema that need not have a text.
func of(l ...api.Def) api.Schema { return api.Schema{Query: "Query", Defs: l} }

// query is what every sound schema has.
func query() api.Def { return object("Query", field("a", "Int")) }

func object(name string, l ...api.FieldDef) api.Def {
	return api.Def{Kind: api.Object, Name: name, Fields: l}
}

func face(name string, l ...api.FieldDef) api.Def {
	return api.Def{Kind: api.Face, Name: name, Fields: l}
}

func union(name string, parts ...string) api.Def {
	return api.Def{Kind: api.Union, Name: name, Parts: parts}
}

func enum(name string, parts ...string) api.Def {
	return api.Def{Kind: api.Enums, Name: name, Parts: parts}
}

func input(name string, l ...api.Param) api.Def {
	return api.Def{Kind: api.Input, Name: name, Params: l}
}

// faced is d with these Faces.
func faced(d api.Def, faces ...string) api.Def {
	d.Faces = faces
	return d
}

func field(name, t string, l ...api.Param) api.FieldDef {
	return api.FieldDef{Name: name, T: typ(t), Params: l}
}

func param(name, t string) api.Param { return api.Param{Name: name, T: typ(t)} }

// given is a Param with a default.
func given(name, t string, v api.Value) api.Param {
	return api.Param{Name: name, T: typ(t), Has: true, Default: v}
}

// typ reads a type; what is none becomes a type with this name.
func typ(text string) api.Type {
	if x, ok := wrap.Read(text); ok {
		return x
	}
	return api.Type{Name: text}
}

func names(s string) []string { return strings.Fields(s) }

// unless is the rule that is told where it is not kept, and 0 where it is.
func unless(kept bool, rule int) int {
	if kept {
		return 0
	}
	return rule
}

// none are numbers of no rules.
func none() []int {
	return []int{0, -1, -2, -9, -10, 10, 11, 12, 100, 128, 255, 256, 257, 265, 1<<16 + 1, 1 << 32, 1<<32 + 1, 1<<32 + 9, math.MinInt, math.MinInt + 1, math.MinInt + 9, math.MaxInt}
}

// is holds what is told of s against the first rule that s does not satisfy; 0
// if it satisfies all. Of rules with greater numbers nothing is promised. One
// schema that is told wrong is enough: there are many like it.
func is(t *testing.T, s api.Schema, want int) {
	t.Helper()
	if got := schema.Check(s); got != want {
		t.Fatalf("Check(%.500s) = %d, want %d", show(s), got, want)
	}
	for n := 1; n <= 9 && (want == 0 || n <= want); n++ {
		if schema.Rule(s, n) != (n != want) {
			t.Fatalf("Rule(%.500s, %d) = %v", show(s), n, n == want)
		}
	}
	for _, n := range none() {
		if (n < 1 || want == 0) && schema.Rule(s, n) {
			t.Fatalf("Rule(%.500s, %d) = true, but there is no such rule", show(s), n)
		}
	}
}

// each holds the same against schemas that are written: with a Query, if they say
// nothing of one, with their Defs the other way round, and among other Defs.
func each(t *testing.T, want int, l ...string) {
	t.Helper()
	for _, text := range l {
		s := read(t, text)
		named := func(d api.Def) bool { return d.Name == "Query" }
		if !strings.Contains(text, "schema{") && !slices.ContainsFunc(s.Defs, named) {
			s.Defs = append(s.Defs, query())
		}
		is(t, s, want)
		is(t, reversed(s), want)
		is(t, among(s), want)
	}
}

// reversed is s with its Defs the other way round.
func reversed(s api.Schema) api.Schema {
	out := api.Schema{Query: s.Query, Mutation: s.Mutation}
	for k := range s.Defs {
		out.Defs = append(out.Defs, s.Defs[len(s.Defs)-1-k])
	}
	return out
}

// among is s with its Defs among others that are sound.
func among(s api.Schema) api.Schema {
	ahead := []api.Def{enum("OtherE", "X"), input("OtherI", param("x", "[OtherI!]!"), given("y", "OtherE!", value.Text("")))}
	ahead[1].Params[1].Default = api.Value{Kind: api.Enum, S: "X"}
	behind := []api.Def{face("OtherF", field("f", "Int", param("x", "OtherI"))), faced(object("OtherA", field("f", "Int!", given("y", "Int!", value.Int(1)), param("x", "OtherI"))), "OtherF"), union("OtherU", "OtherA")}
	out := api.Schema{Query: s.Query, Mutation: s.Mutation}
	out.Defs = append(append(append(out.Defs, ahead...), s.Defs...), behind...)
	return out
}

// plain is a schema as one is written: each kind of definition, and Faces of Faces.
const plain = `
	schema{query:Query mutation:Do}
	type Query{a:A n(id:ID! l:[Int!]=[1] i:I={n:1 e:[X] l:[]}):Node! u:[U!]@link(table:"t" col:"c")@col(name:"x")}
	type Do{add(name:String!="x" i:[I!]!):A put(i:I={l:[[{n:2 l:[]}]] n:1}):Boolean!}
	interface Node{id:ID! n(e:E):Int}
	interface Big implements Node{id:ID! big:Big n(e:E x:Int):Int! all:[Node]}
	interface Lone{x:Int}
	type A implements Node{id:ID! n(e:E=Y):Int self:A}
	type B implements&Big&Node{id:ID! big:B! n(x:Int y:Int!=3 e:E):Int! all:[B!]!}
	type C{c:E d:Query m:Do}
	union U=B|C|A union V=Do
	enum E{X Y on}
	input I{n:Int! e:[E!]=[X Y] i:I l:[[I!]!]! j:J}
	input J{s:String="s" i:I! x:ID=7 b:Boolean!=false e:E=null}`

// P11.1, P11.2: schemas that satisfy all rules.
func TestSound(t *testing.T) {
	each(t, 0,
		plain,
		"type Query{a:Int}",
		"type Query{a:Query}",
		"type Query{a:[[[[Query!]!]!]!]! b(c:[[[[ID]]]]):Boolean}",
		"schema{query:A mutation:B}type A{a:Int}type B{b:Int}",
		"schema{query:Mutation mutation:Query}type Query{a:Int}type Mutation{a:Int}",
		"schema{query:A}type A{a:Int}type Mutation{a:Int}",
		"schema{query:Query}enum Mutation{X}type Query{a:Int}",
		"type Mutation{a:Int}type Query{a:Mutation b:Query}",
		"type int{a:string}enum string{X}input boolean{a:Float}enum Float{X}union Id=int",
		"type Query{Query:Int Int:Int type(type:Int Query:Int):Int a:Int A:Int aa:Int}",
		"type _{_:Int a__:Int}type _A_{_a(_b:Int b__b:Int):Int}enum E{__X __}union _U=_",
		"interface F{a:Int}interface G{a:Int}type A implements F&G{a:Int}type B implements G&F{a:Int}",
		"type A{a:Int b:A}type B{a:A b:Int}union U=A|B union W=B|A enum E{X Y}enum G{Y X}",
		"type A{a(x:Int y:ID):Int b(y:Int x:ID):Int x:Int y:Int}input I{x:Int y:ID}input J{y:Int x:ID}",
	)
	is(t, api.Schema{Query: "Query", Defs: []api.Def{{Kind: api.Object, Name: "Query", Faces: []string{}, Fields: []api.FieldDef{{Name: "a", T: typ("Int"), Params: []api.Param{}, Dirs: []api.Dir{}}}, Parts: []string{}, Params: []api.Param{}}}}, 0)
	for _, lists := range []int{0, 1, 2, 3, 4} {
		for musts := range 2 << lists {
			x := api.Type{Name: "A", Lists: lists, Musts: musts}
			y := api.Type{Name: "I", Lists: lists, Musts: musts}
			is(t, of(query(), object("A", api.FieldDef{Name: "a", T: x, Params: []api.Param{{Name: "x", T: y}}}), input("I", param("a", "Int"))), 0)
		}
	}
}

// P11.1: directives are of no account, nor is the length of the text.
func TestNoRuleForThese(t *testing.T) {
	each(t, 0,
		"type Query{a:Int@a@a b:Int@__a(__x:1 __x:2)@deprecated(reason:{a:1 a:2}) c:Int@link(x:[[[1]]])}",
		"interface F{a:Int@x}type A implements F{a:Int@y}",
	)
	long := strings.Repeat("a", 9000)
	is(t, of(query(), object(long, field(long, long, given(long, "E", api.Value{Kind: api.Enum, S: long}))), enum("E", long)), 0)
	is(t, api.Schema{Query: long, Mutation: long + "b", Defs: []api.Def{object(long, field("a", "Int")), object(long+"b", field("a", "Int"))}}, 0)
	is(t, api.Schema{Query: long, Mutation: long + "b", Defs: []api.Def{object(long, field("a", "Int")), object(long+"c", field("a", "Int"))}}, 2)
}

// P11.1: there are no other rules, whatever the schema; P11.2: Check tells none of these.
func TestNoSuchRule(t *testing.T) {
	for _, n := range none() {
		if schema.Rule(read(t, plain), n) || schema.Rule(of(query()), n) {
			t.Errorf("there is a rule %d", n)
		}
		if n < 1 && (schema.Rule(api.Schema{}, n) || schema.Rule(of(query(), query()), n) || schema.Rule(of(enum("E", "X", "X")), n)) {
			t.Errorf("there is a rule %d for schemas that are not sound", n)
		}
	}
}
