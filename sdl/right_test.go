package sdl_test

import (
	"fmt"
	"math"
	"reflect"
	"slices"
	"strings"
	"testing"

	"seine/api"
	"seine/sdl"
	"seine/token"
)

// tells holds whatever is told of s against what its text is read as.
func tells(t *testing.T, s api.Schema) (right bool) {
	t.Helper()
	right = readable(s)
	text := ""
	if right {
		text, _ = token.Print(tokens(schemaText(s))...)
	}
	if got := sdl.Right(s); got != right {
		t.Errorf("Right(%s) = %v", show(s), got)
	}
	got, ok := sdl.Print(s)
	if ok != (right && len(text) <= 8192) || ok && got != text || !ok && got != "" {
		t.Errorf("Print(%s) = %s, %v, want %s, %v", show(s), got, ok, text, right)
	}
	if again, e := sdl.Read(got); ok && (e != api.OK || show(again) != show(s)) {
		t.Errorf("%s is read as %s, %d, not as %s", got, show(again), e, show(s))
	}
	return right
}

// rightIs holds whether s is Right, by both functions, against what is wanted.
func rightIs(t *testing.T, what string, s api.Schema, want bool) {
	t.Helper()
	text, ok := sdl.Print(s)
	if sdl.Right(s) != want || ok != want || (text != "") != want {
		t.Errorf("%s: %.300s: Right %v, Print %.200s, %v, want %v", what, show(s), sdl.Right(s), text, ok, want)
	}
}

// P8.3: texts that are printed.
func TestPrint(t *testing.T) {
	for s, want := range map[string]string{
		"schema{query:Q}":                          "schema { query : Q }",
		"schema{query:Q mutation:Q}":               "schema { query : Q mutation : Q }",
		"type A{a:B}":                              "schema { query : Query } type A { a : B }",
		"type Mutation{a:B}":                       "schema { query : Query mutation : Mutation } type Mutation { a : B }",
		"type Query{a:B}schema{query:Query}":       "schema { query : Query } type Query { a : B }",
		"type Mutation{a:B}schema{query:Q}":        "schema { query : Q } type Mutation { a : B }",
		"\"d\"type A implements&I&J{\"d\"a:B,c:D}": "schema { query : Query } type A implements I & J { a : B c : D }",
		"interface A implements I{a:[[B!]]!}":      "schema { query : Query } interface A implements I { a : [ [ B ! ] ] ! }",
		"interface A{a(b:C=\"d\\n\" \"e\" f:[G!]!={h:[1.0 null]}):I!@j@k(l:{} m:[])}": "schema { query : Query } interface A { a ( b : C = \"d\\n\" f : [ G ! ] ! = { h : [ 1.0 null ] } ) : I ! @ j @ k ( l : { } m : [ ] ) }",
		"union A=|B|C union D=E":                       "schema { query : Query } union A = B | C union D = E",
		"enum A{B\"d\"C}":                              "schema { query : Query } enum A { B C }",
		"input A{a:B b:C=null c:D=-0}":                 "schema { query : Query } input A { a : B b : C = null c : D = 0 }",
		"enum A{B}schema{query:Q}type C{d:E}union F=G": "schema { query : Q } enum A { B } type C { d : E } union F = G",
	} {
		x, e := sdl.Read(s)
		if got, ok := sdl.Print(x); e != api.OK || !ok || got != want {
			t.Errorf("%s is printed as %s, %v, want %s", s, got, ok, want)
		}
	}
}

// P8.3: the names of the operations.
func TestNamesOfOperations(t *testing.T) {
	a := object("A", field("a", "B"))
	for _, name := range []string{"Q", "query", "mutation", "schema", "null", "_9", "Mutation"} {
		for _, l := range [][]api.Def{nil, {}, {a}, {object("Mutation", field("a", "B"))}} {
			rightIs(t, "a Query", api.Schema{Query: name, Defs: l}, true)
			rightIs(t, "both", api.Schema{Query: name, Mutation: name, Defs: l}, true)
			rightIs(t, "no Query", api.Schema{Mutation: name, Defs: l}, false)
			tells(t, api.Schema{Query: name, Mutation: "M", Defs: l})
			tells(t, api.Schema{Query: name, Defs: l})
		}
	}
	for _, bad := range []string{" ", "1", "1a", "a b", "a-b", "é", "\xff", "a!", "[A]", "\"A\"", "A\x00", "{", "$a"} {
		rightIs(t, "a bad Query", api.Schema{Query: bad, Defs: []api.Def{a}}, false)
		rightIs(t, "a bad Query", api.Schema{Query: bad, Mutation: "M"}, false)
		rightIs(t, "a bad Mutation", api.Schema{Query: "Q", Mutation: bad, Defs: []api.Def{a}}, false)
	}
	rightIs(t, "nothing", api.Schema{}, false)
	rightIs(t, "no Query", api.Schema{Defs: []api.Def{a}}, false)
}

// P8.3: what each Kind requires, and what does not belong to it; Kinds that there are not.
func TestKinds(t *testing.T) {
	for kind := -2; kind < 9; kind++ {
		for set := range 32 {
			faces, fields, some, params := set&1 > 0, set&2 > 0, set&4 > 0, set&8 > 0
			d := api.Def{Kind: kind, Name: "A"}
			if set&16 > 0 { // empty lists are as good as none
				d.Faces, d.Fields, d.Parts, d.Params = []string{}, []api.FieldDef{}, []string{}, []api.Param{}
			}
			if faces {
				d.Faces = []string{"I"}
			}
			if fields {
				d.Fields = []api.FieldDef{field("a", "B")}
			}
			if some {
				d.Parts = []string{"B"}
			}
			if params {
				d.Params = []api.Param{param("a", "B")}
			}
			want := false
			switch kind {
			case api.Object, api.Face:
				want = fields && !some && !params
			case api.Union, api.Enums:
				want = some && !faces && !fields && !params
			case api.Input:
				want = params && !faces && !fields && !some
			}
			rightIs(t, "alone", of(d), want)
			rightIs(t, "behind another", of(enum("E", "A"), d, union("U", "A")), want)
			if tells(t, of(d)) != want {
				t.Errorf("%s is readable, or is not", show(of(d)))
			}
		}
	}
	for _, kind := range []int{256, 1 << 32, 1<<32 + 1, math.MaxInt, math.MinInt, -3} {
		for _, d := range []api.Def{object("A", field("a", "B")), union("A", "B"), input("A", param("a", "B")), {Name: "A"}} {
			d.Kind = kind
			rightIs(t, "a Kind that there is not", of(d), false)
		}
	}
	rightIs(t, "a Scalar", of(api.Def{Name: "A"}), false)
	rightIs(t, "a zero Def", of(api.Def{}), false)
	rightIs(t, "a zero Def behind others", of(union("A", "B"), api.Def{}), false)
}

// P8.3: names, wherever they stand.
func TestNames(t *testing.T) {
	names := map[string]bool{"": false, "a": true, "Z_9": true, "_": true, "on": true, "type": true, "implements": true, "1": false, "a b": false, "a!": false, "$a": false, "é": false, "\xff": false, "a\x00": false, "a:b": false, "\"a\"": false, "&": false, "|": false}
	for name, want := range names {
		f := field("a", "B", param("b", "C"))
		for what, l := range map[string][]api.Def{
			"a Def":             {object(name, f)},
			"a union":           {union(name, "A")},
			"an enum":           {enum(name, "A")},
			"an input":          {input(name, param("a", "B"))},
			"an interface":      {face(name, f)},
			"Faces":             {faced(object("A", f), name), faced(face("A", f), "I", name)},
			"a field":           {object("A", field(name, "B")), face("A", f, field(name, "B", param("c", "D")))},
			"its type":          {object("A", field("a", name)), face("A", f, field("a", name, param("c", "D")))},
			"a parameter":       {object("A", field("a", "B", param("c", "D"), param(name, "E")))},
			"its type in turn":  {face("A", field("a", "B", param("c", name)))},
			"a part":            {union("A", name), union("A", "B", name), union("A", name, "B")},
			"a value":           {enum("A", name), enum("A", "B", name), enum("A", name, "B")},
			"of an input":       {input("A", param("b", "C"), param(name, "B"))},
			"of its type":       {input("A", param("b", "C"), param("a", name))},
			"a directive":       {object("A", directed(field("a", "B"), dir("d"), dir(name)))},
			"an argument":       {face("A", directed(field("a", "B"), dir("d", member("x", number(1)), member(name, number(1)))))},
			"a member":          {object("A", directed(field("a", "B"), dir("d", member("x", list(mapped(member(name, number(1))))))))},
			"within a default":  {input("A", given("a", "B", mapped(member("x", number(1)), member(name, number(1)))))},
			"a value's own":     {input("A", given("a", "B", said(api.Enum, name)))},
			"a value in a list": {object("A", field("a", "B", given("c", "D", list(number(1), said(api.Enum, name)))))},
		} {
			for k, d := range l {
				rightIs(t, fmt.Sprint(what, k, name), of(d), want)
				rightIs(t, fmt.Sprint(what, k, name), of(union("U", "A"), d, d), want)
			}
		}
	}
	for _, name := range []string{"true", "false", "null"} {
		rightIs(t, "a value", of(enum("A", name)), false)
		rightIs(t, "a value behind others", of(enum("A", "B", name, "C")), false)
		rightIs(t, "an Enum", of(input("A", given("a", "B", said(api.Enum, name)))), false)
		for _, d := range []api.Def{union(name, name, name), enum(name, "A"), input(name, param(name, name)), faced(object(name, directed(field(name, name, param(name, name)), dir(name, member(name, mapped(member(name, number(1))))))), name)} {
			rightIs(t, "any other name", of(d), true)
		}
	}
}

// everywhere returns schemas in which values stand at every place where one may.
func everywhere(v api.Value, has bool) []api.Schema {
	p := api.Param{Name: "a", T: typ("B", 0, 0), Has: has, Default: v}
	out := []api.Schema{of(input("A", p)), of(input("A", param("b", "C"), given("c", "D", number(1)), p)), of(object("A", field("a", "B", p))), of(face("A", field("a", "B"), field("a", "B", param("b", "C"), p))), of(enum("E", "A"), input("A", p, param("b", "C")))}
	if has {
		d := dir("d", member("x", number(1)), member("y", v))
		out = append(out, of(object("A", directed(field("a", "B"), d))), of(faced(face("A", field("a", "B"), directed(field("a", "B", param("b", "C")), dir("c"), d)), "I")))
	}
	return out
}

// P8.3: values that a text has, and those that it does not.
func TestValues(t *testing.T) {
	good := []api.Value{{}, {L: []api.Value{}, M: []api.Member{}}, {Kind: api.Bool}, {Kind: api.Bool, N: 1}, number(0), number(math.MinInt64), number(math.MaxInt64), said(api.Num, "1.50"), said(api.Num, "9223372036854775808"), said(api.Num, "-1E+9"), said(api.Text, ""), said(api.Text, "\x00\"\\\n\ufeff😀$a"), said(api.Enum, "E"), list(), mapped(), list(list(), mapped(member("a", said(api.Enum, "a")), member("a", number(2))))}
	bad := []api.Value{{Kind: -1}, {Kind: 9}, {N: 1}, {S: "a"}, {L: []api.Value{{}}}, {M: []api.Member{{}}}, {Kind: api.Bool, N: 2}, {Kind: api.Bool, N: -1}, {Kind: api.Int, S: "1"}, said(api.Num, "1"), said(api.Num, ""), said(api.Num, "01.5"), said(api.Num, "-"), said(api.Text, "\xff"), said(api.Text, "\xed\xa0\x80"), {Kind: api.Text, N: 1}, said(api.Enum, ""), said(api.Enum, "a b"), {Kind: api.List, M: []api.Member{{Name: "a"}}}, {Kind: api.Map, L: []api.Value{{}}}, mapped(member("", number(1))), mapped(member("a b", number(1))), said(api.Var, "a"), said(api.Var, "")}
	for _, v := range good {
		for _, x := range []api.Value{v, list(number(1), v), mapped(member("a", list(v)))} {
			for _, s := range everywhere(x, true) {
				rightIs(t, "a value", s, true)
				tells(t, s)
			}
		}
	}
	for _, v := range bad {
		for _, x := range []api.Value{v, list(number(1), v), mapped(member("a", list(v)))} {
			for _, s := range append(everywhere(x, true), everywhere(x, false)...) {
				rightIs(t, "no value", s, false)
				tells(t, s)
			}
		}
	}
	for k, v := range good { // the first two are the zero Value
		for _, s := range everywhere(v, false) {
			rightIs(t, "a Default where Has is false", s, k < 2)
			tells(t, s)
		}
	}
}

// P8.3: values nested in MaxDeep others and in fewer.
func TestDeepDefaults(t *testing.T) {
	for _, n := range []int{0, 1, 2, 14, 15, 16, 17, 18, 600, 1 << 12} {
		for _, leaf := range []api.Value{number(1), list(), mapped(), said(api.Var, "v")} {
			v, deep := leaf, n
			if leaf.Kind == api.List || leaf.Kind == api.Map {
				deep++
			}
			for k := range n {
				if k%2 == 0 {
					v = list(number(1), v)
				} else {
					v = mapped(member("a", v), member("b", number(1)))
				}
			}
			for _, s := range everywhere(v, true) {
				rightIs(t, "a deep value", s, deep <= 16 && leaf.Kind != api.Var)
			}
			if n > 0 && n < 20 {
				for _, s := range everywhere(v, false) {
					rightIs(t, "a deep Default where Has is false", s, false)
				}
			}
		}
	}
}

// P8.3: types that may be, and that may not.
func TestTypes(t *testing.T) {
	for lists := -2; lists < 8; lists++ {
		for musts := -3; musts < 70; musts++ {
			for name, is := range map[string]bool{"": false, "B": true, "null": true, "1": false, "B!": false, "[B]": false} {
				x := typ(name, lists, musts)
				want := is && lists >= 0 && lists <= 4 && musts >= 0 && musts < 2<<max(lists, 0)
				for _, s := range []api.Schema{of(object("A", api.FieldDef{Name: "a", T: x})), of(face("A", field("b", "C"), api.FieldDef{Name: "a", T: x, Dirs: []api.Dir{dir("d")}})), of(object("A", field("a", "B", param("b", "C"), api.Param{Name: "c", T: x}))), of(input("A", param("b", "C"), api.Param{Name: "a", T: x, Has: true, Default: number(1)}))} {
					rightIs(t, "a type", s, want)
				}
			}
		}
	}
	for _, x := range []api.Type{{}, typ("B", math.MaxInt, 0), typ("B", math.MinInt, 0), typ("B", 0, math.MaxInt), typ("B", 4, math.MinInt), typ("B", 1<<32, 0), typ("B", 64, 1)} {
		rightIs(t, "a field's type", of(object("A", api.FieldDef{Name: "a", T: x})), false)
		rightIs(t, "an input's type", of(input("A", api.Param{Name: "a", T: x})), false)
	}
}

// P8.3: a text of MaxText bytes, and one of one byte more.
func TestLongPrints(t *testing.T) {
	for what, made := range map[string]func(s string) api.Schema{
		"schema { query :  }":                         func(s string) api.Schema { return api.Schema{Query: s} },
		"schema { query : Q mutation :  }":            func(s string) api.Schema { return api.Schema{Query: "Q", Mutation: s} },
		"schema { query : Query } type  { a : B }":    func(s string) api.Schema { return of(object(s, field("a", "B"))) },
		"schema { query : Query } union A = B |  | C": func(s string) api.Schema { return of(union("A", "B", s, "C")) },
		"schema { query : Query } enum A {  }":        func(s string) api.Schema { return of(enum("A", s)) },
		"schema { query : Query } interface A implements  { a : B }": func(s string) api.Schema {
			return of(faced(face("A", field("a", "B")), s))
		},
		"schema { query : Query } input A { a : [ [  ! ] ] ! = \"\\n\" }": func(s string) api.Schema {
			return of(input("A", api.Param{Name: "a", T: typ(s, 2, 5), Has: true, Default: said(api.Text, "\n")}))
		},
		"schema { query : Query } type A { a : B @ d ( x :  ) }": func(s string) api.Schema {
			return of(object("A", directed(field("a", "B"), dir("d", member("x", said(api.Enum, s))))))
		},
		"schema { query : Query } type A { a ( b : C = \"\" ) : D }": func(s string) api.Schema {
			return of(object("A", field("a", "D", given("b", "C", said(api.Text, s)))))
		},
	} {
		for _, n := range []int{8190, 8191, 8192, 8193, 8194, 20000, 1 << 17} {
			s := made(strings.Repeat("a", n-len(what)))
			text, ok := sdl.Print(s)
			if !sdl.Right(s) || ok != (n <= 8192) || ok && len(text) != n || !ok && text != "" {
				t.Errorf("%s of %d bytes: Right %v, %d bytes, %v", what, n, sdl.Right(s), len(text), ok)
			}
			if again, e := sdl.Read(text); ok && (e != api.OK || show(again) != show(s)) {
				t.Errorf("%s of %d bytes is not read as it was: %d", what, n, e)
			}
		}
	}
	many := of(slices.Repeat([]api.Def{union("A", "B")}, 10000)...)
	if text, ok := sdl.Print(many); !sdl.Right(many) || ok || text != "" {
		t.Errorf("many Defs: Right %v, %d bytes, %v", sdl.Right(many), len(text), ok)
	}
}

// parts returns v and all parts of it, which can be set.
func parts(v reflect.Value) []reflect.Value {
	out := []reflect.Value{v}
	switch v.Kind() {
	case reflect.Slice:
		for k := range v.Len() {
			out = append(out, parts(v.Index(k))...)
		}
	case reflect.Struct:
		for k := range v.NumField() {
			out = append(out, parts(v.Field(k))...)
		}
	}
	return out
}

// instead returns what may stand at the place of a part.
func instead(v reflect.Value) []any {
	switch x := v.Interface().(type) {
	case bool:
		return []any{!x}
	case string:
		return []any{"", "a", x + "Z_9", "on", "true", "null", "type", "implements", "1", "1a", "a b", "a:b", "&a", "$a", "é", "\xff", "1.5", "9223372036854775808", `"`}
	case int64:
		return []any{int64(0), int64(1), int64(2), int64(-1), int64(1) << 62}
	case int:
		return []any{-1, 0, 1, 2, 3, 4, 5, 6, 7, 8, 9, 15, 16, 31, 32, 1 << 40, -1 << 63}
	case api.Value:
		return []any{api.Value{}, number(1), said(api.Var, "v"), said(api.Enum, "E"), said(api.Enum, "false"), list(said(api.Var, "v")), mapped(member("a b", number(1))), mapped(member("a", x)), list(x)}
	case api.Type:
		return []any{api.Type{}, typ("T", 0, 0), typ("T", 4, 31), typ("T", 4, 32), typ("T", 5, 0)}
	case api.Def:
		return []any{api.Def{}, object("A", field("a", "B")), union("A", "B"), union("A"), enum("A", "B"), input("A", param("a", "B")), input("A"), faced(object("A"), "I")}
	}
	if v.Kind() != reflect.Slice {
		return nil
	}
	n := v.Len()
	none := reflect.MakeSlice(v.Type(), 0, 2)
	zero := reflect.Append(v.Slice3(0, n, n), reflect.Zero(v.Type().Elem()))
	out := []any{none.Interface(), zero.Interface(), reflect.AppendSlice(v.Slice3(0, n, n), v).Interface()}
	if n > 0 {
		out = append(out, v.Slice(1, n).Interface(), v.Slice(0, n-1).Interface())
	}
	return out
}

// P8.3 and P8.4: samples with each of their parts replaced.
func TestReplacedParts(t *testing.T) {
	right, wrong := 0, 0
	for _, text := range samples() {
		s, e := sdl.Read(text)
		if e != api.OK || !tells(t, s) {
			t.Fatalf("%s: the error %d", text, e)
		}
		for _, part := range parts(reflect.ValueOf(&s).Elem()) {
			was := reflect.New(part.Type()).Elem()
			was.Set(part)
			for _, x := range instead(was) {
				part.Set(reflect.ValueOf(x))
				if tells(t, s) {
					right++
				} else {
					wrong++
				}
			}
			part.Set(was)
		}
	}
	if right < 1000 || wrong < 2000 {
		t.Errorf("%d of the changed samples are Right, %d are not", right, wrong)
	}
}
