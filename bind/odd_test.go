package bind_test

import (
	"fmt"
	"math"
	"reflect"
	"slices"
	"strings"
	"testing"

	"seine/api"
	"seine/bind"
	"seine/schema"
	"seine/value"
)

// parts returns v and all parts of it, which can be set.
func parts(v reflect.Value) []reflect.Value {
	out := []reflect.Value{v}
	switch v.Kind() {
	case reflect.Slice:
		for k := range v.Len() {
			out = append(out, parts(v.Index(k))...)
		}
	case reflect.Struct:
		for k := range v.NumField() {
			out = append(out, parts(v.Field(k))...)
		}
	}
	return out
}

// instead returns what may stand at the place of a part.
func instead(v reflect.Value) []any {
	switch x := v.Interface().(type) {
	case bool:
		return []any{!x}
	case string:
		return []any{"", "a", "id", "name", "table", "col", "arg", "cmd", "add", "put", "zap", "link", "get", "do", "A", "N", "U", "E", "I", "Query", "Do", "Int", "ID", "__typename", "\xff"}
	case int64:
		return []any{int64(0), int64(1), int64(-1), int64(1) << 40}
	case int:
		return []any{0, 1, 2, 3, 4, 5, 6, 7, 8, 9, 1 << 40, 1<<32 + 1}
	case api.Value:
		return []any{api.Value{}, value.Int(1), value.Text("x"), value.Text("add"), value.Text("id"), api.Value{Kind: api.Enum, S: "x"}, api.Value{Kind: api.Var, S: "x"}, api.Value{Kind: api.List, L: []api.Value{x}}, api.Value{Kind: api.Map, M: []api.Member{{Name: "a", V: x}}}}
	case api.Type:
		return []any{api.Type{}, typ("Int"), typ("[Int!]"), typ("E!"), typ("I"), typ("A!"), typ("[A]!"), typ("N"), typ("[U!]!"), typ("Do"), typ("ID!"), typ("[String]"), typ("None"), api.Type{Name: "A", Lists: 5}}
	case api.Dir:
		return []any{api.Dir{}, dir("col", "name", "x"), dir("link", "col", "c", "table", "t"), dir("get", "arg", "id", "table", "t"), dir("do", "cmd", "put", "table", "t"), dir("do", "cmd", "add", "table", "t", "col", "c"), dir("skip", "if", "x")}
	}
	if v.Kind() != reflect.Slice {
		return nil
	}
	n := v.Len()
	zero := reflect.Append(v.Slice3(0, n, n), reflect.Zero(v.Type().Elem()))
	out := []any{reflect.MakeSlice(v.Type(), 0, 2).Interface(), zero.Interface(), reflect.AppendSlice(v.Slice3(0, n, n), v).Interface()}
	if n > 0 {
		out = append(out, v.Slice(1, n).Interface(), v.Slice3(0, n-1, n-1).Interface())
	}
	return out
}

// replaced calls do with each part of v replaced by each of many.
func replaced(v reflect.Value, do func()) {
	for _, part := range parts(v) {
		was := reflect.New(part.Type()).Elem()
		was.Set(part)
		for _, x := range instead(was) {
			part.Set(reflect.ValueOf(x))
			do()
		}
		part.Set(was)
	}
}

// P12.1: questions with each part replaced by each of many.
func TestReplacedParts(t *testing.T) {
	all, told := 0, 0
	for _, x := range samples() {
		for _, typ := range names("Query Do") {
			q := question{read(t, whole), typ, field(t, x.text)}
			replaced(reflect.ValueOf(&q).Elem(), func() {
				all++
				if agree(t, q.S, q.Typ, q.F) {
					told++
				}
			})
		}
	}
	if told < all/10 || told > all*9/10 {
		t.Errorf("of %d fields %d are told", all, told)
	}
}

// P12.2, P12.3: a schema that can be served with each part replaced by each of many.
func TestReplacedPartsOfSchemas(t *testing.T) {
	s := read(t, whole)
	serves(t, s, true)
	all, right := 0, 0
	replaced(reflect.ValueOf(&s).Elem(), func() {
		want := served(s)
		serves(t, s, want)
		all++
		if want {
			right++
		}
	})
	if right < 100 || right > all/2 {
		t.Errorf("of %d schemas %d are served", all, right)
	}
	serves(t, s, true)
}

// R1, R6, R8: both functions end, whatever they are given.
func TestAnything(t *testing.T) {
	numbers := []int{0, 1, 2, 3, 4, 5, -1, 64, 1<<32 + 1, math.MaxInt, math.MinInt}
	for k, kind := range numbers {
		for j, lists := range numbers {
			x := api.Type{Name: "K", Lists: lists, Musts: numbers[(j+k)%len(numbers)]}
			v := api.Value{Kind: kind, N: int64(lists), S: "x", L: make([]api.Value, 2), M: make([]api.Member, 2)}
			f := api.FieldDef{Name: "\xff", T: x, Params: []api.Param{{Name: "x", T: x, Has: true, Default: v}, {}}, Dirs: []api.Dir{{Name: "get", Args: []api.Member{{Name: "arg", V: v}, {Name: "table", V: v}}}}}
			d := api.Def{Kind: kind, Name: "K", Faces: names("K K"), Parts: names("K K"), Fields: []api.FieldDef{f, {}}, Params: f.Params}
			s := api.Schema{Query: "K", Mutation: "K", Defs: []api.Def{d, {}, d}}
			for _, mutation := range append(names("K L"), "", "\xff") {
				for _, typ := range append(names("K L"), "", "\xff") {
					agree(t, with(s, mutation), typ, f)
					bind.Of(with(s, mutation), typ, api.FieldDef{T: x, Dirs: []api.Dir{dir("do", "cmd", "put", "table", "t")}})
					no(t, api.Schema{Mutation: mutation}, typ, f)
				}
				serves(t, with(s, mutation), false)
			}
		}
	}
	no(t, api.Schema{}, "", api.FieldDef{})
	is(t, api.Schema{}, "", api.FieldDef{T: typ("Int")}, byCol(""))
}

// R1: values, lists and texts as large and as deep as they may be.
func TestLarge(t *testing.T) {
	s := read(t, whole)
	deep := value.Text("x")
	for range 4000 {
		deep = api.Value{Kind: api.List, L: []api.Value{deep}}
	}
	many := args(strings.Fields(strings.Repeat("table t ", 100000))...)
	long := strings.Repeat("x", 1<<22)
	f := field(t, "a(p:ID):A")
	for _, a := range [][]api.Member{many, append(many, args("col", "c")...), {{Name: "table", V: deep}}, append(args("col", "c"), api.Member{Name: "table", V: deep}), args("table", "t", "col", "c", long, "x")} {
		f.Dirs = []api.Dir{{Name: "link", Args: a}}
		no(t, s, "Query", f)
	}
	f.Dirs = make([]api.Dir, 100000)
	no(t, s, "Query", f)
	f.Dirs = []api.Dir{dir("link", "table", long, "col", long+"y")}
	is(t, s, "Query", f, byLink(long, long+"y"))
	f.Params = append(slices.Repeat([]api.Param{{Name: "q", T: typ("Int")}}, 100000), f.Params...)
	f.Dirs = []api.Dir{dir("get", "table", long, "arg", "p")}
	is(t, s, "Query", f, byGet(long, "p"))
	f.Params[7].Name, f.Params[7].Default = "p", deep
	no(t, s, "Query", f)
	s.Defs[0].Fields[0].Dirs = []api.Dir{{Name: "col", Args: []api.Member{{Name: "name", V: deep}}}}
	serves(t, s, false)
	s.Defs[0].Fields[0].Dirs = []api.Dir{dir("col", "name", strings.Repeat("x", 1<<16))}
	serves(t, s, true)
}

// R1, P12.2: a schema of many definitions, one field of which decides.
func TestManyDefs(t *testing.T) {
	text := "schema{query:Query mutation:Do}type Query{a:Int}type Do{a:F@do(cmd:'put' table:'t')}interface F{a:F}"
	s := read(t, text)
	for k := range 300 {
		one := read(t, fmt.Sprintf("type T%d implements F{a:T%d@link(table:'t' col:'c') b:F@link(table:'t' col:'c')}", k, (k+1)%300))
		s.Defs = append(s.Defs, one.Defs...)
	}
	serves(t, s, true)
	last := &s.Defs[len(s.Defs)-1].Fields[1]
	last.Dirs[0].Name = "col"
	serves(t, s, false)
	last.Dirs[0].Name = "link"
	serves(t, s, true)
	s.Defs[1].Faces = []string{"F"}
	serves(t, s, false)
	if n := schema.Check(s); n != 0 {
		t.Errorf("the schema breaks rule %d", n)
	}
}
