package schema_test

import (
	"reflect"
	"slices"
	"testing"

	"seine/api"
	"seine/schema"
	"seine/value"
)

// breaks are, for each rule in turn, ways to break it and no rule with a smaller
// number, whatever else is broken.
func breaks() [][]func(s *api.Schema) {
	add := func(l ...api.Def) func(s *api.Schema) {
		return func(s *api.Schema) { s.Defs = append(s.Defs, l...) }
	}
	a := field("a", "Int")
	return [][]func(s *api.Schema){
		{add(object("B1")), add(enum("B1", "X"), input("B1", param("a", "Int"))), add(enum("ID", "X")), add(object("__B1", a)), func(s *api.Schema) { s.Query = "" }, add(api.Def{Name: "B1"})},
		{func(s *api.Schema) { s.Query = "None" }, func(s *api.Schema) { s.Mutation = s.Query }, func(s *api.Schema) { s.Mutation = "ID" }, func(s *api.Schema) { s.Query = "E" }, func(s *api.Schema) { s.Mutation = "F" }},
		{add(object("B3", a, a)), add(enum("B3", "X", "X")), add(input("B3", param("__a", "Int"))), add(object("B3", field("a", "Int", param("x", "Int"), param("x", "Int")))), add(face("B3", field("__b", "Int")))},
		{add(object("B4", field("a", "None"))), add(object("B4", field("a", "I"))), add(input("B4", param("a", "Query"))), add(face("B4", field("a", "Int", param("x", "F"))))},
		{add(faced(object("B5", a), "None")), add(faced(face("B5", a), "B5")), add(faced(object("B5", a), "G")), add(faced(object("B5", a), "E"))},
		{add(faced(object("B6", field("b", "Int")), "F")), add(faced(face("B6", field("a", "ID")), "F")), add(faced(object("B6", field("a", "Int", param("x", "Int!"))), "F"))},
		{add(union("B7", "None")), add(union("B7", "Query", "E")), add(union("B7", "F")), add(union("B7", "B7"))},
		{add(input("B8", param("a", "B8!"))), add(input("B8", param("a", "C8!")), input("C8", param("a", "B8!")))},
		{add(input("B9", given("a", "I", api.Value{}))), add(object("B9", field("a", "Int", given("x", "Int", value.Text("1"))))), add(input("B9", given("a", "E", value.Text("X"))))},
	}
}

// P11.2: of all rules that are not kept, Check tells the one with the least number, wherever they are broken.
func TestLeast(t *testing.T) {
	all := breaks()
	for set := range 1 << len(all) {
		for variant := range 6 {
			s := of(query(), face("F", field("a", "Int")), faced(face("G", field("a", "Int")), "F"), enum("E", "X"), input("I", param("a", "Int!")))
			want := 0
			for n := len(all); n > 0; n-- {
				if set>>(n-1)&1 == 1 {
					l := all[n-1]
					l[variant%len(l)](&s)
					want = n
				}
			}
			is(t, s, want)
			is(t, reversed(s), want)
		}
	}
}

// parts returns v and all parts of it, which can be set.
func parts(v reflect.Value) []reflect.Value {
	out := []reflect.Value{v}
	switch v.Kind() {
	case reflect.Slice:
		for k := range v.Len() {
			out = append(out, parts(v.Index(k))...)
		}
	case reflect.Struct:
		for k := range v.NumField() {
			out = append(out, parts(v.Field(k))...)
		}
	}
	return out
}

// instead returns what may stand at the place of a part.
func instead(v reflect.Value) []any {
	switch x := v.Interface().(type) {
	case bool:
		return []any{!x}
	case string:
		return []any{"", "a", "x", "b", "F", "G", "A", "U", "E", "I", "J", "X", "Query", "Mutation", "Int", "ID", "__x", "a b", "\xff", "null"}
	case int64:
		return []any{int64(0), int64(1), int64(-1), int64(1) << 31, int64(-1) << 63}
	case int:
		return []any{-1, 0, 1, 2, 3, 4, 5, 6, 7, 8, 9, 31, 1 << 40, -1 << 63}
	case api.Value:
		return []any{api.Value{}, value.Int(1), value.Text("X"), api.Value{Kind: api.Enum, S: "X"}, api.Value{Kind: api.Var, S: "x"}, api.Value{Kind: api.List, L: []api.Value{x}}, api.Value{Kind: api.Map}, api.Value{Kind: api.Map, M: []api.Member{{Name: "a", V: x}}}}
	case api.Type:
		return []any{api.Type{}, typ("Int"), typ("[Int!]"), typ("I!"), typ("J!"), typ("[I!]!"), typ("F"), typ("G!"), typ("A"), typ("U"), typ("E"), typ("None"), api.Type{Name: "Int", Lists: 5}}
	case api.Def:
		return []any{api.Def{}, query(), object("A", field("a", "Int")), faced(face("F", field("a", "Int")), "F"), union("U", "A", "B"), enum("E", "X"), input("I", param("a", "Int")), input("I", param("a", "J!")), faced(object("A", field("a", "Int")), "F", "G")}
	}
	if v.Kind() != reflect.Slice {
		return nil
	}
	n := v.Len()
	zero := reflect.Append(v.Slice3(0, n, n), reflect.Zero(v.Type().Elem()))
	out := []any{reflect.MakeSlice(v.Type(), 0, 2).Interface(), zero.Interface(), reflect.AppendSlice(v.Slice3(0, n, n), v).Interface()}
	if n > 0 {
		out = append(out, v.Slice(1, n).Interface(), v.Slice(0, n-1).Interface())
	}
	return out
}

// samples are schemas in which every list has elements.
const samples = `
	type Query{a(x:Int=1 y:[I!]!):A b:[U!]! f:F@link(table:"t" col:"c")}
	type Mutation implements F{a(x:E!):Int b:ID!}
	interface F{a(x:E!):Int}
	interface G implements F{a(x:E! y:I):Int x:F}
	type A implements F&G{a(y:I={a:1} x:E! b:Int=1):Int! x:A}
	union U=A|B type B{b:U e:[E]}
	enum E{X Y a}
	input I{a:Int! x:[Int!]!=[1] j:J}
	input J{i:I! x:J e:E=X}`

// P11.1, P11.2: a schema with each of its parts replaced by each of many; numbers of whatever rules end and do not panic.
func TestReplacedParts(t *testing.T) {
	counts := map[int]int{}
	s := read(t, samples)
	is(t, s, 0)
	for _, part := range parts(reflect.ValueOf(&s).Elem()) {
		was := reflect.New(part.Type()).Elem()
		was.Set(part)
		for _, x := range instead(was) {
			part.Set(reflect.ValueOf(x))
			want := first(s)
			counts[want]++
			is(t, s, want)
			for n := -1; n < 12; n++ {
				schema.Rule(s, n)
			}
		}
		part.Set(was)
	}
	for n := range 10 {
		if counts[n] < 5 {
			t.Errorf("%d schemas are told %d", counts[n], n)
		}
	}
}

// P11.1, P11.2: a schema with a Def taken away, moved, or put twice.
func TestMovedDefs(t *testing.T) {
	s := read(t, samples)
	for k := range s.Defs {
		less := of(slices.Delete(slices.Clone(s.Defs), k, k+1)...)
		less.Mutation = s.Mutation
		is(t, less, first(less))
		for j := range s.Defs {
			moved := of(slices.Insert(slices.Clone(less.Defs), min(j, len(less.Defs)), s.Defs[k])...)
			moved.Mutation = s.Mutation
			is(t, moved, 0)
			more := of(slices.Insert(slices.Clone(s.Defs), j, s.Defs[k])...)
			is(t, more, 1)
		}
	}
}
