package fields_test

import (
	"math"
	"slices"
	"strings"
	"testing"

	"seine/api"
	"seine/every"
	"seine/fields"
	"seine/parse"
	"seine/schema"
	"seine/sdl"
)

// world is a schema with types of each kind, each within lists and without. No
// object has the interface L; names of fields occur in several types.
const world = `
	schema{query:Root mutation:Do}
	type Root{int:Int! str:String flag:Boolean id:ID! enum:E enums:[[E!]!]! ints(x:Int y:[I!]):[Int!] root:Root! roots:[[Root!]] do:Do
		a:A as:[A!]! b:B c:[[[C]!]!]! node:N nodes:[[N]!]! more:M lone:L! any:U! alls:[U] other:V last:[W!]}
	type Do{put:Int! int:Root do:Do! dos:[Do] root:[Root] a:A any:[U!] node:N enum:[E]}
	interface N{id:ID! next:N}
	interface M implements N{id:ID! next:N also:E}
	interface L{lone:Int self:L}
	type A implements N{id:ID! next:A! own:Int us:[U] es:[E]}
	type B implements N&M{id:ID! next:M also:E! own:N bs:[B]}
	type C{c:C id:Int! v:[V]}
	union U=A|B union V=C|B|Root union W=C
	enum E{X Y} input I{int:Int}`

// typesOfFields are, for each type of world, its fields, each ahead of the name of
// its type.
func typesOfFields() map[string]string {
	return map[string]string{
		"Root": "int Int str String flag Boolean id ID enum E enums E ints Int root Root roots Root do Do a A as A b B c C node N nodes N more M lone L any U alls U other V last W",
		"Do":   "put Int int Root do Do dos Do root Root a A any U node N enum E",
		"N":    "id ID next N",
		"M":    "id ID next N also E",
		"L":    "lone Int self L",
		"A":    "id ID next A own Int us U es E",
		"B":    "id ID next M also E own N bs B",
		"C":    "c C id Int v V",
		"U":    "", "V": "", "W": "",
	}
}

// notComposite are names of types of world that have no fields, and names of which
// there are no types.
func notComposite() []string {
	return append(names("E I Int String Boolean ID X Float Query Mutation root a u __Type on"), "", "\xff", "Root ")
}

func names(s string) []string { return strings.Fields(s) }

// read reads a document.
func read(t *testing.T, text string) api.Doc {
	t.Helper()
	d, e := parse.Read(text)
	if e != api.OK {
		t.Fatalf("%s is not read: %d", text, e)
	}
	return d
}

// sound reads a schema.
func sound(t *testing.T, text string) api.Schema {
	t.Helper()
	s, e := sdl.Read(text)
	if e != api.OK || schema.Check(s) != 0 {
		t.Fatalf("%s is not read, or not sound: %d", text, e)
	}
	return s
}

// bare is s without a Mutation.
func bare(s api.Schema) api.Schema {
	s.Mutation = ""
	return s
}

func field(name string, l ...api.Sel) api.Sel {
	return api.Sel{Kind: api.Field, Name: name, Sels: l}
}

func spread(name string, l ...api.Sel) api.Sel {
	return api.Sel{Kind: api.Spread, Name: name, Sels: l}
}

func inline(on string, l ...api.Sel) api.Sel {
	return api.Sel{Kind: api.Inline, On: on, Sels: l}
}

// noKinds are numbers of which there is no Kind of anything.
func noKinds() []int {
	return []int{-1, 6, 7, 256, 257, 258, 1 << 32, 1<<32 + 1, 1<<32 + 2, math.MaxInt, math.MinInt, math.MinInt + 1}
}

// P14.1: the type of an operation of each Kind, and of Kinds that there are none of, whatever else the operation and the schema have.
func TestRoot(t *testing.T) {
	s := sound(t, world)
	all := append(names("Root Do Query Mutation N E X"), "", "\xff")
	sels := read(t, "mutation{put}").Ops[0].Sels
	for _, query := range all {
		for _, mutation := range all {
			for _, defs := range [][]api.Def{s.Defs, nil} {
				s := api.Schema{Defs: defs, Query: query, Mutation: mutation}
				for _, kind := range append(noKinds(), api.Query, api.Mutation, 2, 3) {
					want := query
					if kind == 1 {
						want = mutation
					}
					for _, op := range []api.Op{{}, {Name: "Mutation"}, {Name: "Root", Sels: sels}, {Vars: []api.VarDef{{Name: "Do"}}, Dirs: []api.Dir{{Name: "mutation"}}}} {
						op.Kind = kind
						if got := fields.Root(s, op); got != want {
							t.Fatalf("Root of an operation of the Kind %d, with Query %q and Mutation %q: %q", kind, query, mutation, got)
						}
					}
				}
			}
		}
	}
}

// P14.1: the type of an operation, as it is written.
func TestRootOfText(t *testing.T) {
	for text, want := range map[string]string{
		"type Query{a:Int}":                                                          "Query ",
		"type Query{a:Int}type Mutation{a:Int}":                                      "Query Mutation",
		"schema{query:Query}type Query{a:Int}type Mutation{a:Int}":                   "Query ",
		"schema{query:Mutation mutation:Query}type Query{a:Int}type Mutation{a:Int}": "Mutation Query",
		"schema{query:A mutation:B}type A{a:Int}type B{a:Int}type Query{a:Int}":      "A B",
		"schema{query:A}type A{a:Int}type Query{a:Int}":                              "A ",
		world: "Root Do",
	} {
		s := sound(t, text)
		d := read(t, "query A{a}mutation B{a}query C{a}mutation D{a}")
		query, mutation, _ := strings.Cut(want, " ")
		for k, want := range []string{query, mutation, query, mutation} {
			if got := fields.Root(s, d.Ops[k]); got != want {
				t.Errorf("%s: Root of operation %d: %q, want %q", text, k, got, want)
			}
		}
		if got := fields.Root(s, read(t, "{a}").Ops[0]); got != query {
			t.Errorf("%s: Root of a bare operation: %q", text, got)
		}
	}
}

// within holds Within against what is wanted, whatever else the selection has.
func within(t *testing.T, s api.Schema, typ string, x api.Sel, want string) {
	t.Helper()
	full := x
	full.Alias = "root"
	full.Args = []api.Member{{Name: "x"}}
	full.Dirs = []api.Dir{{Name: "node"}}
	full.Sels = []api.Sel{field("a"), spread("b"), inline("N", field("id"))}
	switch x.Kind {
	case api.Field:
		full.On = "N"
	case api.Inline:
		full.Name = "root"
	}
	for _, x := range []api.Sel{x, full} {
		if got := fields.Within(s, typ, x); got != want {
			t.Fatalf("Within(%q, %+v) = %q, want %q", typ, x, got, want)
		}
	}
}

// P14.1: within each field that there is, `__typename` too, and each that there is not, of each type and of what is none.
func TestWithinFields(t *testing.T) {
	s := sound(t, world)
	table := typesOfFields()
	all := append(names("__typename __schema __type none Int INT root: aa"), "", "\xff")
	for typ, text := range table {
		all = append(all, typ)
		all = append(all, names(text)...)
	}
	for typ, text := range table {
		want := map[string]string{"__typename": "String"}
		l := names(text)
		for k := 0; k < len(l); k += 2 {
			want[l[k]] = l[k+1]
		}
		for _, name := range all {
			within(t, s, typ, field(name), want[name])
			within(t, bare(s), typ, field(name), want[name])
		}
	}
	for _, typ := range notComposite() {
		for _, name := range all {
			within(t, s, typ, field(name), "")
		}
	}
}

// P14.1: within an Inline with an On, which there need not be, and without one; within a Spread, and within Kinds that there are none of.
func TestWithinOthers(t *testing.T) {
	s := sound(t, world)
	all := notComposite()
	for typ := range typesOfFields() {
		all = append(all, typ)
	}
	for _, s := range []api.Schema{s, bare(s), {}} {
		for _, typ := range all {
			for _, on := range all {
				want := on
				if on == "" {
					want = typ
				}
				within(t, s, typ, inline(on), want)
				within(t, s, typ, api.Sel{Kind: api.Spread, Name: on, On: on}, "")
			}
			for _, name := range names("root a id F __typename N") {
				within(t, s, typ, spread(name), "")
				for _, kind := range append(noKinds(), 3, 4, 5) {
					within(t, s, typ, api.Sel{Kind: kind, Name: name, On: "N"}, "")
					within(t, s, typ, api.Sel{Kind: kind, Name: name}, "")
				}
			}
		}
	}
}

// P14.1: within selections as they are written.
func TestWithinText(t *testing.T) {
	s := sound(t, world)
	for text, want := range map[string]string{
		"Root a": "A", "Root x:a": "A", "Root a:int": "Int", "Root int:a{int}": "A", "Root enums": "E", "Root c": "C", "Root nodes{id}": "N", "Root last{__typename}": "W", "Root ints(x:1 y:[])": "Int", "Root put": "", "Root __typename": "String", "Root x:__typename@skip(if:true)": "String",
		"Do put": "Int", "Do int": "Root", "Do root": "Root", "Do str": "", "Do __typename": "String",
		"N id": "ID", "N own": "", "N next": "N", "A next": "A", "B next": "M", "A own": "Int", "B own": "N", "M own": "", "U id": "", "U __typename": "String", "V c": "", "E X": "", "E __typename": "", "I int": "", "I __typename": "", "Int int": "", "ID __typename": "",
		"A ...{a}": "A", "A ...on N{a}": "N", "A ...on A{a}": "A", "A ...on X{a}": "X", "X ...{a}": "X", "X ...on A{a}": "A", "E ...@skip(if:true){a}": "E", "Root ...{a{id}}": "Root", "Root ...on Int{a}": "Int",
		"A ...F": "", "A ...A": "", "N ...next": "", "Root ...root@include(if:false)": "",
	} {
		typ, rest, _ := strings.Cut(text, " ")
		if got := fields.Within(s, typ, read(t, "{"+rest+"}").Ops[0].Sels[0]); got != want {
			t.Errorf("within %s: %q, want %q", text, got, want)
		}
	}
}

// fieldDef is a definition of a field, with things that are of no account here.
func fieldDef(name, typ string, lists int) api.FieldDef {
	return api.FieldDef{Name: name, T: api.Type{Name: typ, Lists: lists, Musts: lists + 1}, Params: []api.Param{{Name: "b"}}, Dirs: []api.Dir{{Name: "a"}}}
}

// pieces are Defs of few names, some of them with what does not belong to their
// Kind, or with fields of one name.
func pieces() []api.Def {
	return []api.Def{
		{Kind: api.Object, Name: "A", Fields: []api.FieldDef{fieldDef("a", "A", 0), fieldDef("a", "B", 1), fieldDef("", "", 0)}},
		{Kind: api.Object, Name: "A", Fields: []api.FieldDef{fieldDef("b", "Int", 2), fieldDef("__typename", "A", 0)}},
		{Kind: api.Object, Name: "Int", Fields: []api.FieldDef{fieldDef("a", "A", 0)}},
		{Kind: api.Object, Name: "", Fields: []api.FieldDef{fieldDef("a", "Z", -1), fieldDef("", "A", 99)}},
		{Kind: api.Face, Name: "A", Fields: []api.FieldDef{fieldDef("", "B", 4), fieldDef("b", "", 0)}},
		{Kind: api.Face, Name: "B", Fields: []api.FieldDef{fieldDef("a", "\xff", 4), fieldDef("b", "B", 0)}},
		{Kind: api.Union, Name: "A", Parts: names("B"), Fields: []api.FieldDef{fieldDef("a", "B", 0)}},
		{Kind: api.Union, Name: "B", Parts: names("A A")},
		{Kind: api.Enums, Name: "B", Parts: names("a"), Fields: []api.FieldDef{fieldDef("a", "A", 0), fieldDef("__typename", "A", 0)}},
		{Kind: api.Input, Name: "A", Params: []api.Param{{Name: "a"}}, Fields: []api.FieldDef{fieldDef("b", "B", 0)}},
		{Kind: api.Scalar, Name: "B", Fields: []api.FieldDef{fieldDef("b", "A", 0)}},
		{Kind: 6, Name: "A", Fields: []api.FieldDef{fieldDef("a", "A", 0)}},
		{Kind: -1, Name: "B", Fields: []api.FieldDef{fieldDef("b", "B", 0)}},
	}
}

// P14.1, R8: within selections of each Kind, by every schema of up to three Defs, which may be any.
func TestWithinEverySchema(t *testing.T) {
	types := append(names("A B Int Z"), "", "\xff")
	var sels []api.Sel
	for _, name := range append(names("a b __typename c"), "") {
		for kind := -1; kind < 5; kind++ {
			sels = append(sels, api.Sel{Kind: kind, Name: name, On: name}, api.Sel{Kind: kind, Name: name, Alias: "a"})
		}
	}
	for l := range every.List(3, pieces()...) {
		s := api.Schema{Defs: slices.Clone(l), Query: "A", Mutation: "B"}
		w := tell(s)
		for _, typ := range types {
			for _, x := range sels {
				if got, want := fields.Within(s, typ, x), w.within(typ, x); got != want {
					t.Fatalf("Within(%+v, %q, %+v) = %q, want %q", s, typ, x, got, want)
				}
			}
		}
	}
}
