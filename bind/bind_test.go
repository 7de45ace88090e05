package bind_test

import (
	"fmt"
	"strings"
	"testing"

	"seine/api"
	"seine/bind"
	"seine/sdl"
	"seine/value"
	"seine/wrap"
)

// world is a schema with types of each kind; Do is among the possible types of N,
// V and W. No object has the Face L.
const world = `
	schema{query:Query mutation:Do}
	type Query{a:Int} type Do implements N{a:Int}
	type A implements F&N{a:Int} type B{a:Int}
	interface F{a:Int} interface N{a:Int} interface L{a:Int}
	union U=A|B union V=A|Do union W=Do
	enum E{X Do} input I{a:Int}`

// read reads a schema; ' stands for ".
func read(t *testing.T, text string) api.Schema {
	t.Helper()
	s, e := sdl.Read(strings.ReplaceAll(text, "'", `"`))
	if e != api.OK {
		t.Fatalf("%s is not read: %d", text, e)
	}
	return s
}

// field reads a field as it is written in a schema.
func field(t *testing.T, text string) api.FieldDef {
	t.Helper()
	return read(t, "type T{"+text+"}").Defs[0].Fields[0]
}

// with is s with this Mutation.
func with(s api.Schema, mutation string) api.Schema {
	s.Mutation = mutation
	return s
}

// typ reads a type; what is none becomes a type with this name.
func typ(text string) api.Type {
	if x, ok := wrap.Read(text); ok {
		return x
	}
	return api.Type{Name: text}
}

func names(s string) []string { return strings.Fields(s) }

// dir is a directive with these arguments: a name and a text in turn.
func dir(name string, texts ...string) api.Dir {
	return api.Dir{Name: name, Args: args(texts...)}
}

func args(texts ...string) []api.Member {
	var out []api.Member
	for k := 0; k < len(texts); k += 2 {
		out = append(out, api.Member{Name: texts[k], V: value.Text(texts[k+1])})
	}
	return out
}

func byCol(col string) api.Bind { return api.Bind{How: api.ByCol, Col: col} }

func byLink(table, col string) api.Bind { return api.Bind{How: api.ByLink, Table: table, Col: col} }

func byGet(table, arg string) api.Bind { return api.Bind{How: api.ByGet, Table: table, Arg: arg} }

func byDo(cmd, table, col string) api.Bind {
	return api.Bind{How: api.ByDo, Cmd: cmd, Table: table, Col: col}
}

// is holds what Of tells of a field against where its value comes from. One field
// that is told wrong is enough: there are many like it.
func is(t *testing.T, s api.Schema, typ string, f api.FieldDef, want api.Bind) {
	t.Helper()
	if got, ok := bind.Of(s, typ, f); got != want || !ok {
		t.Fatalf("of %q, Mutation %q: Of(%.300s) = %+v, %v, want %+v", typ, s.Mutation, fmt.Sprintf("%+v", f), got, ok, want)
	}
}

// no wants that Of tells nothing of a field.
func no(t *testing.T, s api.Schema, typ string, f api.FieldDef) {
	t.Helper()
	if got, ok := bind.Of(s, typ, f); got != (api.Bind{}) || ok {
		t.Fatalf("of %q, Mutation %q: Of(%.300s) = %+v, %v, want nothing", typ, s.Mutation, fmt.Sprintf("%+v", f), got, ok)
	}
}

// either wants b if this is told at all, and otherwise nothing.
func either(t *testing.T, s api.Schema, typ string, f api.FieldDef, told bool, b api.Bind) {
	t.Helper()
	if told {
		is(t, s, typ, f, b)
	} else {
		no(t, s, typ, f)
	}
}

// A sample is a field that is right in one type or another.
type sample struct {
	text string
	want api.Bind
}

// samples are fields without a directive, and with one of each.
func samples() []sample {
	return []sample{
		{"a:Int", byCol("a")},
		{"name(x:Int):[E!]!", byCol("name")},
		{"a:String@col(name:'x')", byCol("x")},
		{"a:[[ID]]@col(name:'a b')", byCol("a b")},
		{"a:A@link(table:'t' col:'c')", byLink("t", "c")},
		{"a:[F!]!@link(col:'t' table:'c')", byLink("c", "t")},
		{"a(id:ID!):U@get(table:'t' arg:'id')", byGet("t", "id")},
		{"a(x:Int ids:[String]):[B]@get(arg:'ids' table:'t')", byGet("t", "ids")},
		{"a(key:ID!):A!@do(cmd:'put' table:'t')", byDo("put", "t", "")},
		{"a:ID@do(table:'t' cmd:'cut')", byDo("cut", "t", "")},
		{"a:U@do(cmd:'burn' table:'burn')", byDo("burn", "burn", "")},
		{"a:Int!@do(cmd:'add' table:'t' col:'c')", byDo("add", "t", "c")},
	}
}

// P12.1: each of the four, in each type: commands in Mutation and nowhere else.
func TestInEachType(t *testing.T) {
	types := names("Query A B Do F N L U V W E I Int ID Nowhere do Dos Mutation __typename")
	for _, mutation := range append(types, "") {
		s := with(read(t, world), mutation)
		for _, x := range samples() {
			f := field(t, x.text)
			for _, typ := range append(types, "") {
				commands := typ == mutation && typ != ""
				either(t, s, typ, f, commands == (x.want.How == api.ByDo) && !among(s, f.T.Name), x.want)
			}
		}
	}
}

// among reports whether Mutation is one of the possible types of this name, in world.
func among(s api.Schema, name string) bool {
	possible := map[string]string{"Query": "Query", "Do": "Do", "A": "A", "B": "B", "F": "A", "N": "Do A", "U": "A B", "V": "A Do", "W": "Do"}
	return s.Mutation != "" && strings.Contains(" "+possible[name]+" ", " "+s.Mutation+" ")
}

// P12.1: the examples, and what stands in a schema as one is written.
func TestWritten(t *testing.T) {
	s := read(t, `
		schema{query:Query mutation:Change}
		type Query{me:User@link(table:"u" col:"me") user(id:ID!):User@get(table:"u" arg:"id") users(ids:[ID!]!):[User]!@get(table:"u" arg:"ids") count:Int}
		type User{id:ID! name:String@col(name:"n") boss:User @link(table: "u", col: "b") friends:[User!]@link(table:"u" col:"f") tags:[[String]]}
		type Change{put(key:ID! n:String):User!@do(cmd:"put" table:"u") cut(key:ID!):ID@do(cmd:"cut" table:"u") grow(key:ID! by:Int!):Int@do(cmd:"add" table:"u" col:"age")}`)
	want := map[string]api.Bind{
		"Query.me": byLink("u", "me"), "Query.user": byGet("u", "id"), "Query.users": byGet("u", "ids"), "Query.count": byCol("count"),
		"User.id": byCol("id"), "User.name": byCol("n"), "User.boss": byLink("u", "b"), "User.friends": byLink("u", "f"), "User.tags": byCol("tags"),
		"Change.put": byDo("put", "u", ""), "Change.cut": byDo("cut", "u", ""), "Change.grow": byDo("add", "u", "age"),
	}
	for _, d := range s.Defs {
		for _, f := range d.Fields {
			is(t, s, d.Name, f, want[d.Name+"."+f.Name])
			delete(want, d.Name+"."+f.Name)
			other := map[bool]string{true: "User", false: "Change"}[d.Name == "Change"]
			no(t, s, other, f)
		}
	}
	if len(want) > 0 || !bind.Check(s) {
		t.Errorf("not told: %v; or Check does not accept the schema", want)
	}
}

// P12.1: __typename comes from nowhere, whatever is said of it.
func TestTypeName(t *testing.T) {
	for _, mutation := range []string{"Do", "", "Nowhere"} {
		s := with(read(t, world), mutation)
		for _, x := range append(samples(), sample{"a:String!", byCol("")}) {
			f := field(t, x.text)
			for _, name := range []string{"__typename", "__typenam", "_typename", "__typename_", "__Typename", "__schema", "typename", ""} {
				f.Name = name
				if x.want.How == api.ByCol && len(f.Dirs) == 0 {
					x.want.Col = name
				}
				for _, typ := range append(names("Query Do A F U E Int Nowhere __typename"), "") {
					commands := typ == mutation && typ != ""
					either(t, s, typ, f, name != "__typename" && commands == (x.want.How == api.ByDo), x.want)
				}
			}
		}
	}
}
