package bind_test

import (
	"fmt"
	"slices"
	"strings"
	"testing"

	"seine/api"
	"seine/bind"
	"seine/every"
	"seine/schema"
	"seine/value"
)

// judge plainly tells where the value of a field comes from: by the names of the
// directives and of their arguments, in ascending order, and then by the types.
func judge(s api.Schema, typ string, f api.FieldDef) (api.Bind, bool) {
	if f.Name == "__typename" {
		return api.Bind{}, false
	}
	var spelt []string
	texts := map[string]string{}
	for _, d := range f.Dirs {
		var own []string
		for _, a := range d.Args {
			texts[a.Name] = a.V.S
			if a.V.Kind != api.Text || len(a.V.S) == 0 {
				return api.Bind{}, false
			}
			own = append(own, fmt.Sprintf("%q", a.Name))
		}
		slices.Sort(own)
		spelt = append(spelt, fmt.Sprintf("%q", d.Name)+strings.Join(own, ""))
	}
	in := s.Mutation != "" && s.Mutation == typ
	kind, rows := kindOf(s, f.T.Name)
	leaf := kind == api.Scalar || kind == api.Enums
	switch strings.Join(spelt, "@") {
	case "":
		return only(leaf && !in, byCol(f.Name))
	case `"col""name"`:
		return only(leaf && !in, byCol(texts["name"]))
	case `"link""col""table"`:
		return only(rows && !in, byLink(texts["table"], texts["col"]))
	case `"get""arg""table"`:
		return only(rows && !in && key(f, texts["arg"]), byGet(texts["table"], texts["arg"]))
	case `"do""cmd""table"`:
		known := map[string]bool{"put": true, "cut": true, "burn": true}[texts["cmd"]]
		return only(known && (leaf || rows) && in && f.T.Lists == 0, byDo(texts["cmd"], texts["table"], ""))
	case `"do""cmd""col""table"`:
		return only(texts["cmd"] == "add" && (leaf || rows) && in && f.T.Lists == 0, byDo("add", texts["table"], texts["col"]))
	}
	return api.Bind{}, false
}

// only is b if it is told at all.
func only(told bool, b api.Bind) (api.Bind, bool) {
	if !told {
		b = api.Bind{}
	}
	return b, told
}

// key goes through the Params from the last one, so that the first one counts.
func key(f api.FieldDef, name string) bool {
	right := false
	for k := range f.Params {
		if p := f.Params[len(f.Params)-1-k]; p.Name == name {
			right = strings.Contains(" ID String ", " "+p.T.Name+" ") && p.T.Name != "" && p.T.Lists == f.T.Lists
		}
	}
	return right
}

// kindOf is the kind that a name has (-1: none), and whether values of this type
// are rows among which there are none of Mutation.
func kindOf(s api.Schema, name string) (int, bool) {
	kinds := map[string]int{}
	defs := map[string]api.Def{}
	for k := range s.Defs {
		d := s.Defs[len(s.Defs)-1-k] // so that the first one of a name counts
		kinds[d.Name], defs[d.Name] = d.Kind, d
	}
	for _, scalar := range names("Int String Boolean ID") {
		kinds[scalar] = api.Scalar
	}
	kind, ok := kinds[name]
	if !ok {
		return -1, false
	}
	possible := map[string]bool{}
	switch kind {
	case api.Object:
		possible[name] = true
	case api.Face:
		for _, d := range s.Defs {
			possible[d.Name] = possible[d.Name] || d.Kind == api.Object && slices.Contains(d.Faces, name)
		}
	case api.Union:
		for _, part := range defs[name].Parts {
			_, there := kinds[part]
			possible[part] = there && kinds[part] == api.Object
		}
	default:
		return kind, false
	}
	return kind, s.Mutation == "" || !possible[s.Mutation]
}

// served plainly tells whether s can be served.
func served(s api.Schema) bool {
	for _, d := range s.Defs {
		for _, f := range d.Fields {
			if _, ok := judge(s, d.Name, f); !ok && d.Kind == api.Object {
				return false
			}
		}
	}
	return schema.Check(s) == 0
}

// agree holds Of against what is told plainly, and reports whether it is told at all.
func agree(t *testing.T, s api.Schema, typ string, f api.FieldDef) bool {
	t.Helper()
	b, told := judge(s, typ, f)
	either(t, s, typ, f, told, b)
	return told
}

// P12.1: every list of up to three arguments of many, for each directive, some that there are none of among them.
func TestEveryDirective(t *testing.T) {
	s := read(t, world)
	pool := append(args("name", "x", "table", "t", "table", "put", "col", "c", "arg", "p", "arg", "q", "cmd", "put", "cmd", "add", "cmd", "zap", "col", "", "x", "y"), api.Member{Name: "table", V: value.Int(1)}, api.Member{Name: "name", V: api.Value{Kind: api.Enum, S: "x"}})
	told := map[int]int{}
	for l := range every.List(3, pool...) {
		for _, name := range names("col link get do skip") {
			for _, x := range []string{"a(p:ID):Int", "a(q:Int p:ID):A", "a(p:[ID]):[A]", "a(p:ID):N"} {
				f := field(t, x)
				f.Dirs = []api.Dir{{Name: name, Args: l}}
				for _, typ := range names("Query Do") {
					if agree(t, s, typ, f) {
						b, _ := bind.Of(s, typ, f)
						told[b.How]++
					}
				}
			}
		}
	}
	if told[api.ByCol] != 1 || told[api.ByLink] != 2*2*2 || told[api.ByGet] != 2*2*2 || told[api.ByDo] != 2*(2*2+2*6) {
		t.Errorf("told are %v", told)
	}
}

// P12.1: every two directives of many, some of which tell nothing.
func TestEveryTwoDirectives(t *testing.T) {
	s := read(t, world)
	pool := []api.Dir{{}, {Name: "col"}, {Name: "do"}, dir("link", "table", "t"), dir("skip", "if", "x"), dir("", "name", "x"), dir("col", "name", ""), dir("do", "cmd", "add", "table", "t")}
	for _, l := range sources() {
		pool = append(pool, l...)
	}
	for l := range every.List(3, pool...) {
		for _, x := range []string{"a(p:ID):Int", "a(p:ID):A"} {
			f := field(t, x)
			f.Dirs = l
			for _, typ := range names("Query Do") {
				if agree(t, s, typ, f) && len(l) > 1 {
					t.Fatalf("%d directives tell %+v", len(l), l)
				}
			}
		}
	}
}

// P12.1, R8: all schemas of a few Defs, in each order, some with names that are taken or with what their kind has not.
func TestEverySchema(t *testing.T) {
	all := func(kind int, name string) api.Def {
		return api.Def{Kind: kind, Name: name, Faces: names("K M"), Parts: names("M K"), Fields: []api.FieldDef{{Name: "a"}}}
	}
	var pool []api.Def
	for kind := range 6 {
		pool = append(pool, all(kind, "K"), all(kind, "M"))
	}
	pool = append(pool, all(api.Object, ""), all(api.Face, "Int"), api.Def{Kind: api.Object, Name: "A"}, api.Def{Kind: api.Union, Name: "K", Parts: names("A Z")}, api.Def{Kind: api.Object, Name: "Z", Faces: names("K")})
	keys := []api.Param{{Name: "p", T: typ("String!")}}
	told := 0
	for l := range every.List(3, pool...) {
		for _, mutation := range append(names("K M"), "") {
			s := api.Schema{Defs: l, Mutation: mutation, Query: "K"}
			for _, typ := range append(names("K M"), "") {
				for _, name := range append(names("K M Int"), "") {
					for source, dirs := range sources() {
						if strings.Contains("col cut burn", source) {
							continue
						}
						f := api.FieldDef{Name: "a", T: api.Type{Name: name}, Dirs: dirs, Params: keys}
						if agree(t, s, typ, f) {
							told++
						}
					}
				}
			}
		}
	}
	if told < 100000 {
		t.Errorf("only %d fields are told", told)
	}
}
