package defs_test

import (
	"fmt"
	"math"
	"strings"
	"testing"

	"seine/api"
	"seine/defs"
	"seine/sdl"
)

// plain is a schema as one is written: each kind of definition, and Faces of Faces.
const plain = `
	type Query{a:A n(id:ID! l:[Int!]=[1]):Node! u:[U!]@link(table:"t" col:"c")@col(name:"x")}
	interface Node{id:ID n:Int}
	interface Big implements Node{id:ID! big:Boolean n:Int}
	interface Lone{x:Int}
	type A implements Node{id:ID n:Int}
	type B implements Big&Node{id:ID! big:Boolean n:Int}
	type C{c:E}
	union U=B|C|A
	union V=C
	union W=Query
	enum E{X Y}
	input I{a:Int=3 i:[I!] e:E!}`

// schema reads a text that is right.
func schema(t *testing.T, text string) api.Schema {
	t.Helper()
	s, e := sdl.Read(text)
	if e != api.OK {
		t.Fatalf("%s is not read: %d", text, e)
	}
	return s
}

// of makes a schema that need not have a text.
func of(l ...api.Def) api.Schema { return api.Schema{Query: "Query", Defs: l} }

func object(name string, faces []string, fields ...api.FieldDef) api.Def {
	return api.Def{Kind: api.Object, Name: name, Faces: faces, Fields: fields}
}

func face(name string, faces []string, fields ...api.FieldDef) api.Def {
	return api.Def{Kind: api.Face, Name: name, Faces: faces, Fields: fields}
}

func union(name string, parts ...string) api.Def {
	return api.Def{Kind: api.Union, Name: name, Parts: parts}
}

func enum(name string, parts ...string) api.Def {
	return api.Def{Kind: api.Enums, Name: name, Parts: parts}
}

// full is a definition of this kind with all that any kind has.
func full(kind int, name string) api.Def {
	return api.Def{
		Kind: kind, Name: name, Faces: names("N M"), Fields: []api.FieldDef{field("a", "Int"), field("b", "A")},
		Parts: names("A B X"), Params: []api.Param{{Name: "p", T: typ("Int", 0, 0), Has: true}},
	}
}

func field(name, t string) api.FieldDef {
	return api.FieldDef{Name: name, T: typ(t, 0, 0)}
}

func typ(name string, lists, musts int) api.Type {
	return api.Type{Name: name, Lists: lists, Musts: musts}
}

func names(s string) []string { return strings.Fields(s) }

func show(x any) string { return fmt.Sprintf("%+v", x) }

// finds holds what Find tells of a name against the definition that is wanted.
func finds(t *testing.T, s api.Schema, name string, want api.Def) {
	t.Helper()
	if got, ok := defs.Find(s, name); show(got) != show(want) || !ok {
		t.Errorf("Find(%q) = %s, %v, want %s", name, show(got), ok, show(want))
	}
}

// findsNone holds that no definition has any of the names.
func findsNone(t *testing.T, s api.Schema, names ...string) {
	t.Helper()
	for _, name := range names {
		if got, ok := defs.Find(s, name); show(got) != show(api.Def{}) || ok {
			t.Errorf("Find(%q) = %s, %v, want none", name, show(got), ok)
		}
		if defs.Leaf(s, name) || defs.Composite(s, name) || defs.Entry(s, name) {
			t.Errorf("%q, which nothing has: Leaf %v, Composite %v, Entry %v", name, defs.Leaf(s, name), defs.Composite(s, name), defs.Entry(s, name))
		}
	}
}

// ranks holds Leaf, Composite and Entry against what is wanted: of `l`, `c` and `e`, those that are true.
func ranks(t *testing.T, s api.Schema, name, want string) {
	t.Helper()
	got := ""
	for _, x := range []struct {
		letter string
		is     bool
	}{{"l", defs.Leaf(s, name)}, {"c", defs.Composite(s, name)}, {"e", defs.Entry(s, name)}} {
		if x.is {
			got += x.letter
		}
	}
	if got != want {
		t.Errorf("%q is %q, want %q", name, got, want)
	}
}

// scalarNames are those of the types that are always there.
func scalarNames() []string { return names("Int String Boolean ID") }

// P9.1: each definition of a schema by its name, whole.
func TestFind(t *testing.T) {
	s := schema(t, plain)
	for _, d := range s.Defs {
		finds(t, s, d.Name, d)
	}
	for name, want := range map[string]string{"Query": "c", "Node": "c", "Big": "c", "A": "c", "U": "c", "W": "c", "E": "le", "I": "e", "Int": "le", "String": "le", "Boolean": "le", "ID": "le"} {
		ranks(t, s, name, want)
	}
	findsNone(t, s, "", "Z", "a", "query", "QUERY", "Query ", " Query", "Quer", "Queryy", "X", "Float", "int", "Id", "id", "string", "Bool", "__typename", "Int!", "[Int]", "\xff", "A\x00", "A\nB")
}

// P9.1: the four Scalars are there in every schema, and no Def replaces one.
func TestScalars(t *testing.T) {
	for _, name := range scalarNames() {
		want := api.Def{Kind: api.Scalar, Name: name}
		for _, l := range [][]api.Def{nil, {}, {{}}, {object("A", nil)}, {full(api.Scalar, name)}, {object("A", nil), full(api.Scalar, name), full(api.Enums, name)}} {
			finds(t, of(l...), name, want)
			ranks(t, of(l...), name, "le")
		}
		for kind := -2; kind < 9; kind++ {
			finds(t, of(full(kind, name), full(kind, "A")), name, want)
			ranks(t, of(full(kind, name)), name, "le")
		}
	}
	finds(t, api.Schema{}, "Int", api.Def{Kind: api.Scalar, Name: "Int"})
}

// P9.1: which kinds are Leaf, Composite and Entry, of a Def that has whatever any kind has; kinds that do not exist are none of these.
func TestKinds(t *testing.T) {
	want := map[int]string{api.Scalar: "le", api.Object: "c", api.Face: "c", api.Union: "c", api.Enums: "le", api.Input: "e"}
	for _, kind := range []int{0, 1, 2, 3, 4, 5, 6, 7, -1, -2, 64, 256, 257, 1 << 32, 1<<32 + 1, math.MaxInt, math.MinInt} {
		for _, name := range []string{"A", "", "a b", "\xff", "__typename"} {
			s := of(object("B", nil), full(kind, name), full(kind+1, name))
			finds(t, s, name, full(kind, name))
			ranks(t, s, name, want[kind])
			s = of(api.Def{Kind: kind, Name: name})
			finds(t, s, name, api.Def{Kind: kind, Name: name})
			ranks(t, s, name, want[kind])
		}
	}
}

// P9.1: of several Defs with one Name the first one counts; without Defs, no name but the Scalars' is found.
func TestFindFirst(t *testing.T) {
	one, two, three := enum("A", "X"), object("A", names("N"), field("a", "Int")), api.Def{Kind: api.Input, Name: "A"}
	for _, l := range [][]api.Def{{one, two, three}, {two, three, one}, {three, one, two}, {three, three, one}, {one, two}} {
		for _, other := range []api.Def{object("B", nil), union("AA", "A"), {}} {
			s := of(append(append([]api.Def{other}, l...), other)...)
			finds(t, s, "A", l[0])
			finds(t, s, other.Name, other)
		}
	}
	for _, s := range []api.Schema{{}, {Query: "Query", Mutation: "M"}, of(), {Defs: []api.Def{}}} {
		findsNone(t, s, "", "A", "Query", "M", "Mutation")
	}
	findsNone(t, of(one), "")
}

// fieldIs holds what Field tells against the field that is wanted.
func fieldIs(t *testing.T, s api.Schema, typ, name string, want api.FieldDef) {
	t.Helper()
	if got, ok := defs.Field(s, typ, name); show(got) != show(want) || !ok {
		t.Errorf("Field(%q, %q) = %s, %v, want %s", typ, name, show(got), ok, show(want))
	}
}

// noField holds that there is none.
func noField(t *testing.T, s api.Schema, typ, name string) {
	t.Helper()
	if got, ok := defs.Field(s, typ, name); show(got) != show(api.FieldDef{}) || ok {
		t.Errorf("Field(%q, %q) = %s, %v, want none", typ, name, show(got), ok)
	}
}

// typeName is the field that each Composite type has.
func typeName() api.FieldDef {
	return api.FieldDef{Name: "__typename", T: typ("String", 0, 1)}
}

// P9.2: each field of each type by its name, whole, and no other.
func TestField(t *testing.T) {
	s := schema(t, plain)
	all := names("a n u id big x c e i X Y A Query")
	for _, d := range s.Defs {
		has := map[string]bool{}
		for _, f := range d.Fields {
			has[f.Name] = true
			fieldIs(t, s, d.Name, f.Name, f)
		}
		for _, name := range append(all, "", "A", "aa", "__type", "__typenam", "__Typename", "typename", " a") {
			if !has[name] {
				noField(t, s, d.Name, name)
			}
		}
	}
	for _, name := range append(scalarNames(), "", "Z", "query", "Query ", "Mutation") {
		for _, field := range append(all, "", "__typename") {
			noField(t, s, name, field)
		}
	}
	link := api.Dir{Name: "link", Args: []api.Member{{Name: "table", V: api.Value{Kind: api.Text, S: "t"}}, {Name: "col", V: api.Value{Kind: api.Text, S: "c"}}}}
	col := api.Dir{Name: "col", Args: []api.Member{{Name: "name", V: api.Value{Kind: api.Text, S: "x"}}}}
	fieldIs(t, s, "Query", "u", api.FieldDef{Name: "u", T: typ("U", 1, 2), Dirs: []api.Dir{link, col}})
	list := api.Value{Kind: api.List, L: []api.Value{{Kind: api.Int, N: 1}}}
	fieldIs(t, s, "Query", "n", api.FieldDef{Name: "n", T: typ("Node", 0, 1), Params: []api.Param{{Name: "id", T: typ("ID", 0, 1)}, {Name: "l", T: typ("Int", 1, 2), Has: true, Default: list}}})
}

// P9.2: `__typename` of what is Composite and of what is not.
func TestTypeName(t *testing.T) {
	s := schema(t, plain)
	for _, name := range names("Query Node Big Lone A B C U V W") {
		fieldIs(t, s, name, "__typename", typeName())
	}
	for _, name := range append(scalarNames(), "E", "I", "", "Z", "__typename", "a") {
		noField(t, s, name, "__typename")
	}
	own := api.FieldDef{Name: "__typename", T: typ("Int", 2, 3), Params: []api.Param{{Name: "p"}}, Dirs: []api.Dir{{Name: "d"}}}
	for kind := -1; kind < 8; kind++ {
		for _, name := range []string{"A", "", "\xff"} {
			d := api.Def{Kind: kind, Name: name, Fields: []api.FieldDef{own, field("a", "Int"), own}, Parts: names("__typename")}
			if kind == api.Object || kind == api.Face || kind == api.Union {
				fieldIs(t, of(d), name, "__typename", typeName())
				fieldIs(t, of(api.Def{Kind: kind, Name: name}), name, "__typename", typeName())
			} else {
				noField(t, of(d), name, "__typename")
			}
		}
	}
	for _, name := range scalarNames() {
		noField(t, of(object(name, nil, own, field("a", "Int"))), name, "__typename")
		noField(t, of(object(name, nil, own, field("a", "Int"))), name, "a")
	}
	noField(t, api.Schema{}, "", "__typename")
}

// P9.2: of two Fields with one Name the first one counts; the Fields of the first Def count, and of those only an Object's and a Face's.
func TestFieldFirst(t *testing.T) {
	one := api.FieldDef{Name: "a", T: typ("One", 0, 0)}
	two := api.FieldDef{Name: "a", T: typ("Two", 0, 1), Dirs: []api.Dir{{Name: "d"}}}
	none := api.FieldDef{T: typ("None", 1, 0)}
	s := of(object("A", nil, field("b", "Int"), two, one, none, none), object("A", nil, one, field("c", "Int")), face("F", nil, one, two), face("F", nil), object("O", nil), object("O", nil, one))
	fieldIs(t, s, "A", "a", two)
	fieldIs(t, s, "A", "", none)
	fieldIs(t, s, "F", "a", one)
	noField(t, s, "A", "c")
	noField(t, s, "O", "a")
	for _, kind := range []int{-1, 0, 1, 2, 3, 4, 5, 6, 257, 258, 1<<32 + 1, math.MinInt} {
		for _, name := range []string{"a", "b"} {
			if kind == api.Object || kind == api.Face {
				fieldIs(t, of(full(kind, "K")), "K", name, map[string]api.FieldDef{"a": field("a", "Int"), "b": field("b", "A")}[name])
			} else {
				noField(t, of(full(kind, "K"), object("K", nil, one)), "K", name)
			}
			noField(t, of(full(kind, "K")), "K", "p")
			noField(t, of(full(kind, "K")), "K", "X")
		}
	}
}
