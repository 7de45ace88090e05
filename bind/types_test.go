package bind_test

import (
	"math"
	"slices"
	"testing"

	"seine/api"
	"seine/value"
)

// sources are directives with what they tell, in a type where they may stand:
// those of Mutation are commands.
func sources() map[string][]api.Dir {
	return map[string][]api.Dir{
		"name": nil, "col": {dir("col", "name", "x")}, "link": {dir("link", "table", "t", "col", "c")}, "get": {dir("get", "table", "t", "arg", "p")},
		"put": {dir("do", "cmd", "put", "table", "t")}, "cut": {dir("do", "cmd", "cut", "table", "t")}, "burn": {dir("do", "cmd", "burn", "table", "t")}, "add": {dir("do", "cmd", "add", "table", "t", "col", "c")},
	}
}

// binds are what is told by sources of a field a.
func binds() map[string]api.Bind {
	return map[string]api.Bind{
		"name": byCol("a"), "col": byCol("x"), "link": byLink("t", "c"), "get": byGet("t", "p"),
		"put": byDo("put", "t", ""), "cut": byDo("cut", "t", ""), "burn": byDo("burn", "t", ""), "add": byDo("add", "t", "c"),
	}
}

// lists are how many lists a type has, with each choice of what must be there.
func lists(name string) []api.Type {
	var out []api.Type
	for n := range 4 {
		for musts := range 2 << n {
			out = append(out, api.Type{Name: name, Lists: n, Musts: musts})
		}
	}
	return append(out, api.Type{Name: name, Lists: 7, Musts: -1}, api.Type{Name: name, Lists: math.MaxInt, Musts: math.MaxInt}, api.Type{Name: name, Musts: math.MinInt})
}

// told asks for a field a of each type with this name, and of each source, and
// wants those of the sources that are named, of commands only without lists. The
// argument of `get` has as many lists.
func told(t *testing.T, s api.Schema, typ, name, from string) {
	t.Helper()
	for source, dirs := range sources() {
		b := binds()[source]
		for _, x := range lists(name) {
			f := api.FieldDef{Name: "a", T: x, Dirs: dirs, Params: []api.Param{{Name: "p", T: api.Type{Name: "ID", Lists: x.Lists}}}}
			either(t, s, typ, f, slices.Contains(names(from), source) && (b.How != api.ByDo || x.Lists == 0), b)
		}
	}
}

const (
	columns  = "name col"
	rows     = "link get"
	commands = "put cut burn add"
)

// P12.1: the type of a field in Mutation and in other types, where Mutation is an object.
func TestTypesOfFields(t *testing.T) {
	s := read(t, world)
	for _, typ := range append(names("Query A F U E I Int Nowhere do"), "") {
		for _, name := range names("Int String Boolean ID E") {
			told(t, s, typ, name, columns)
		}
		for _, name := range names("A B Query F U L") {
			told(t, s, typ, name, rows)
		}
		for _, name := range append(names("I Float int Nowhere X Do N V W Mutation"), "") {
			told(t, s, typ, name, "")
		}
	}
	for _, name := range names("Int String Boolean ID E A B Query F U L") {
		told(t, s, "Do", name, commands)
	}
	for _, name := range append(names("I Float int Nowhere X Do N V W Mutation"), "") {
		told(t, s, "Do", name, "")
	}
}

// P12.1: where Mutation is empty, each type is as another, and nothing is a command.
func TestNoMutation(t *testing.T) {
	s := with(read(t, world), "")
	for _, typ := range append(names("Query A Do F U E I Int Nowhere Mutation"), "") {
		for _, name := range names("Int String Boolean ID E") {
			told(t, s, typ, name, columns)
		}
		for _, name := range names("A B Query F U L Do N V W") {
			told(t, s, typ, name, rows)
		}
		for _, name := range append(names("I Float int Nowhere X Mutation"), "") {
			told(t, s, typ, name, "")
		}
	}
}

// P12.1, R8: an empty Mutation is none, even if an object has no name.
func TestNameless(t *testing.T) {
	s := read(t, world)
	for k, d := range s.Defs {
		if d.Name == "Do" {
			s.Defs[k].Name = ""
		}
		if d.Name == "V" || d.Name == "W" {
			s.Defs[k].Parts = append([]string{""}, d.Parts...)
		}
	}
	s.Mutation = ""
	for _, typ := range append(names("Query A"), "") {
		told(t, s, typ, "Int", columns)
		for _, name := range append(names("A F N V W"), "") {
			told(t, s, typ, name, rows)
		}
	}
	s.Mutation = "A"
	for _, name := range append(names("W Query B Int"), "") {
		told(t, s, "A", name, commands)
	}
	for _, name := range names("A F N U V") {
		told(t, s, "A", name, "")
	}
	told(t, s, "", "", rows)
	told(t, s, "", "W", rows)
	told(t, s, "", "V", "")
	told(t, s, "", "Int", columns)
}

// P12.1, R8: where Mutation is no object, its fields are commands all the same, and it is nowhere among the possible types.
func TestMutationThatIsNoObject(t *testing.T) {
	for _, mutation := range append(names("Nowhere F N L U V W E I Int Mutation do __typename"), "\xff", " ") {
		s := with(read(t, world), mutation)
		for _, name := range names("A B Do Query F N L U V W") {
			told(t, s, mutation, name, commands)
			told(t, s, "A", name, rows)
			told(t, s, "Do", name, rows)
			told(t, s, "", name, rows)
		}
		for _, name := range names("Int ID E") {
			told(t, s, mutation, name, commands)
			told(t, s, "Do", name, columns)
			told(t, s, "", name, columns)
		}
		told(t, s, mutation, "I", "")
		told(t, s, "Do", "Nowhere", "")
	}
}

// P12.1, R8: of several definitions with one name the first one counts, as in defs; what a kind has not is of no account, nor is Query.
func TestOddDefs(t *testing.T) {
	all := func(kind int, name string) api.Def {
		return api.Def{Kind: kind, Name: name, Faces: names("F K Do"), Parts: names("A Do"), Fields: []api.FieldDef{{Name: "a"}}, Params: []api.Param{{Name: "p"}}}
	}
	from := map[int]string{api.Scalar: columns, api.Enums: columns, api.Object: rows}
	for _, kind := range []int{-1, 0, 1, 2, 3, 4, 5, 6, 7, 256, 257, 1<<32 + 1, math.MaxInt, math.MinInt} {
		s := api.Schema{Mutation: "Do", Query: "K", Defs: []api.Def{all(kind, "K"), all(api.Object, "Do"), all(api.Enums, "K"), all(api.Object, "K"), all(kind, "Int")}}
		told(t, s, "K", "K", from[kind])
		told(t, s, "K", "Int", columns)
		told(t, s, "Do", "Int", commands)
		told(t, s, "Do", "Do", "")
		none := with(s, "")
		told(t, none, "K", "K", map[bool]string{true: rows, false: from[kind]}[kind == api.Face || kind == api.Union])
		told(t, none, "Do", "Do", rows)
		inDo := map[bool]string{true: commands}[from[kind] != ""]
		told(t, s, "Do", "K", inDo)
	}
	hidden := api.Schema{Mutation: "Do", Defs: []api.Def{all(api.Enums, "Do"), {Kind: api.Face, Name: "F"}, all(api.Object, "Do"), all(api.Union, "U"), all(api.Object, "A")}}
	told(t, hidden, "A", "F", "")
	told(t, hidden, "Do", "F", "")
	told(t, hidden, "A", "U", rows)
	told(t, hidden, "Do", "U", commands)
	told(t, hidden, "A", "Do", columns)
	told(t, hidden, "Do", "Do", commands)
}

// P12.1: the argument of `get`: there, of ID or String, and with as many lists as the field; the first one of that name counts.
func TestGet(t *testing.T) {
	s := read(t, world)
	for text, right := range map[string]bool{
		"a(id:ID):A": true, "a(id:ID!):A": true, "a(id:String):A!": true, "a(id:String!=null):A": true, "a(x:Int id:ID y:[ID]):A": true, "a(id:[ID!]!):[F]": true, "a(id:[[String]]):[[U!]!]!": true,
		"a:A": false, "a(i:ID):A": false, "a(Id:ID):A": false, "a(ids:ID):A": false, "a(t:ID table:ID arg:ID get:ID):A": false,
		"a(id:Int):A": false, "a(id:Boolean!):A": false, "a(id:E):A": false, "a(id:I):A": false, "a(id:Nowhere):A": false, "a(id:A):A": false, "a(id:Id):A": false, "a(id:string):A": false, "a(id:[Int]):[A]": false,
		"a(id:[ID]):A": false, "a(id:ID):[A]": false, "a(id:[[ID!]!]!):[A!]!": false, "a(id:[ID!]!):[[A!]!]!": false, "a(id:String x:[String]):[A]": false,
		"a(id:ID):Int": false, "a(id:[ID]):[E]": false, "a(id:ID):I": false, "a(id:ID):Do": false, "a(id:ID):N": false, "a(id:[ID]):[V]": false, "a(id:ID):Nowhere": false,
		"a(id:ID id:Int):A": true, "a(id:Int id:ID):A": false, "a(id:ID id:[ID]):[A]": false, "a(id:[ID] id:ID):[A]": true, "a(x:Int id:String id:[Int] id:ID):A": true, "a(id:[ID] id:ID):A": false,
	} {
		f := field(t, text+"@get(table:'t' arg:'id')")
		either(t, s, "Query", f, right, byGet("t", "id"))
		either(t, s, "F", f, right, byGet("t", "id"))
		no(t, s, "Do", f)
	}
}

// P12.1, R6: the argument of `get` may have any number of lists, if the field has as many; what must be there is of no account, nor is a default.
func TestGetOfAnyNumbers(t *testing.T) {
	s := read(t, world)
	numbers := []int{0, 1, 2, 3, 4, 5, 63, 64, 256, 1 << 32, 1<<32 + 1, math.MaxInt, -1, math.MinInt}
	for k, musts := range numbers {
		for _, own := range numbers {
			for _, other := range numbers {
				for _, p := range []api.Param{{}, {Has: true}, {Default: value.Int(1)}, {Has: true, Default: value.Text("x")}} {
					p.Name, p.T = "p", api.Type{Name: "ID", Lists: other, Musts: musts}
					f := api.FieldDef{Name: "a", T: api.Type{Name: "A", Lists: own, Musts: numbers[len(numbers)-1-k]}, Params: []api.Param{p}, Dirs: []api.Dir{dir("get", "table", "t", "arg", "p")}}
					either(t, s, "Query", f, own == other, byGet("t", "p"))
				}
			}
		}
	}
}

// P12.1: names of arguments are any texts; one without a name is never asked for, as no text is empty.
func TestGetByAnyName(t *testing.T) {
	s := read(t, world)
	all := append(names("p P table arg a __typename null"), "\xff", " ", "p ")
	for _, own := range append(all, "") {
		for _, asked := range all {
			f := api.FieldDef{Name: "a", T: typ("A"), Params: []api.Param{{}, {Name: own, T: typ("ID")}}, Dirs: []api.Dir{dir("get", "table", "t", "arg", asked)}}
			either(t, s, "Query", f, own == asked, byGet("t", asked))
		}
	}
	no(t, s, "Query", api.FieldDef{Name: "a", T: typ("A"), Params: []api.Param{{T: typ("ID")}}, Dirs: []api.Dir{dir("get", "table", "t", "arg", "")}})
}

// P12.1: each command with and without a column; there are four.
func TestDo(t *testing.T) {
	s := read(t, world)
	without := names("put cut burn")
	for _, cmd := range append(names("put cut burn add Put ADD putt pu burnt adds do link get col name null table __typename"), " put", "add ", "\xff") {
		for _, x := range names("Int ID! E A A! U! L [Int] [A] [U!]! [[E]] I Do N V Nowhere") {
			shown := !slices.Contains(names("[Int] [A] [U!]! [[E]] I Do N V Nowhere"), x)
			f := api.FieldDef{Name: "a", T: typ(x), Dirs: []api.Dir{dir("do", "cmd", cmd, "table", "t")}}
			either(t, s, "Do", f, shown && slices.Contains(without, cmd), byDo(cmd, "t", ""))
			no(t, s, "Query", f)
			f.Dirs = []api.Dir{dir("do", "cmd", cmd, "table", "t", "col", "c")}
			either(t, s, "Do", f, shown && cmd == "add", byDo(cmd, "t", "c"))
			no(t, s, "Query", f)
		}
	}
}
