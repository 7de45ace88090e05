package literal_test

import (
	"fmt"
	"math"
	"strings"
	"testing"

	"seine/api"
	"seine/literal"
	"seine/parse"
	"seine/sdl"
	"seine/token"
	"seine/value"
	"seine/wrap"
)

// plain is a schema as one is written: each kind of definition, and Inputs that
// hold themselves and each other.
const plain = `
	type Query implements Face{a:Int}
	interface Face{a:Int}
	union Union=Query
	enum E{X Y on type}
	enum F{Y Z}
	input I{a:Int! b:[Int]=[1] c:I d:E}
	input J{i:I! l:[[J!]]! e:E!=X s:String}
	input K{k:K b:Boolean}
	input Loop{loop:Loop!}`

// schema reads a text that is right.
func schema(t *testing.T, text string) api.Schema {
	t.Helper()
	s, e := sdl.Read(text)
	if e != api.OK {
		t.Fatalf("%s is not read: %d", text, e)
	}
	return s
}

// typ reads a type that is right.
func typ(t *testing.T, text string) api.Type {
	t.Helper()
	x, e := parse.Type(text)
	if e != api.OK {
		t.Fatalf("%s is not read: %d", text, e)
	}
	return x
}

// val reads a value that is right.
func val(t *testing.T, text string) api.Value {
	t.Helper()
	v, e := parse.Value(text, false)
	if e != api.OK {
		t.Fatalf("%s is not read: %d", text, e)
	}
	return v
}

// of makes a schema that need not have a text.
func of(l ...api.Def) api.Schema { return api.Schema{Query: "Query", Defs: l} }

func input(name string, l ...api.Param) api.Def {
	return api.Def{Kind: api.Input, Name: name, Params: l}
}

func enum(name string, parts ...string) api.Def {
	return api.Def{Kind: api.Enums, Name: name, Parts: parts}
}

// full is a definition of this kind with all that any kind has.
func full(kind int, name string) api.Def {
	return api.Def{
		Kind: kind, Name: name, Faces: []string{"X"}, Parts: []string{"X", "Y"}, Params: []api.Param{param("a", "Int")},
		Fields: []api.FieldDef{{Name: "a", T: named("Int"), Params: []api.Param{param("b", "Int")}}},
	}
}

func named(name string) api.Type { return api.Type{Name: name} }

func param(name, t string) api.Param { return api.Param{Name: name, T: named(t)} }

// must is p with a type that must be there.
func must(p api.Param) api.Param {
	p.T.Musts = 1
	return p
}

// has is p with a default.
func has(p api.Param) api.Param {
	p.Has = true
	return p
}

func single(kind int, s string) api.Value { return api.Value{Kind: kind, S: s} }

func number(n int64) api.Value { return api.Value{Kind: api.Int, N: n} }

func list(l ...api.Value) api.Value { return api.Value{Kind: api.List, L: l} }

func mapped(l ...api.Member) api.Value { return api.Value{Kind: api.Map, M: l} }

func member(name string, v api.Value) api.Member { return api.Member{Name: name, V: v} }

func variable(name string) api.Value { return single(api.Var, name) }

// show tells a type or a value as it is written, if it can be.
func show(x any) string {
	switch x := x.(type) {
	case api.Type:
		if s, ok := wrap.Print(x); ok {
			return s
		}
	case api.Value:
		if l, ok := value.Tokens(x); ok {
			s, _ := token.Print(l...)
			return s
		}
	}
	return fmt.Sprintf("%.300s", fmt.Sprintf("%+v", x))
}

// scalarNames are those of the types that are always there.
func scalarNames() []string { return strings.Fields("Int String Boolean ID") }

// rightIs holds Right against what is wanted.
func rightIs(t *testing.T, s api.Schema, x api.Type, v api.Value, want bool) {
	t.Helper()
	if got := literal.Right(s, x, v); got != want {
		t.Errorf("Right(%s, %s) = %v", show(x), show(v), got)
	}
}

// A row tells of a type which values, of one line, are right for it, and which are not.
type row struct{ t, right, wrong string }

// rows holds Right against each of the rows, whose values are separated by `;`.
func rows(t *testing.T, s api.Schema, l ...row) {
	t.Helper()
	for _, x := range l {
		for want, values := range map[bool]string{true: x.right, false: x.wrong} {
			for text := range strings.SplitSeq(values, ";") {
				if got := literal.Right(s, typ(t, x.t), val(t, text)); got != want {
					t.Errorf("Right(%s, %s) = %v", x.t, text, got)
				}
			}
		}
	}
}

// P10.1: each Scalar and each value that is no list of it.
func TestScalars(t *testing.T) {
	s := schema(t, plain)
	rows(t, s,
		row{"Int", `0;1;-1;2147483647;-2147483648`, `2147483648;-2147483649;4294967296;4294967297;9223372036854775807;-9223372036854775808;9223372036854775808;1.0;1e0;0.0;"1";"";true;false;X;Int;{};{a:1}`},
		row{"String", `"";"a";"1";"true";"é\u0000";"""X"""`, `0;1;1.5;9223372036854775808;true;false;X;String;{};{a:1};{a:"a"}`},
		row{"Boolean", `true;false`, `0;1;1.0;"true";"";X;True;Boolean;{};{a:true}`},
		row{"ID", `"";"a";"1.5";0;1;-1;2147483648;-2147483649;9223372036854775807;-9223372036854775808`, `9223372036854775808;-9223372036854775809;1.0;1e5;true;false;X;ID;{};{a:1}`},
	)
	for _, name := range scalarNames() {
		rows(t, s, row{name, `null;$v`, `[];[null];[$v];[1];["a"];[true];[[1]]`}, row{name + "!", `$v`, `null;[];[null];[$v];[1];["a"];[true]`})
	}
	rows(t, s, row{"Int!", `1`, `"a";2147483648`}, row{"String!", `"a"`, `1`}, row{"Boolean!", `true`, `1`}, row{"ID!", `1;"1"`, `1.5`})
}

// P10.1: the bounds of an Int, which those of an ID are not.
func TestBounds(t *testing.T) {
	for _, n := range []int64{math.MinInt64, math.MinInt64 + 1, -1 << 33, -1<<32 - 1, -1 << 32, -1<<31 - 2, -1<<31 - 1, -1 << 31, -1<<31 + 1, -2, -1, 0, 1, 2, 1<<31 - 2, 1<<31 - 1, 1 << 31, 1<<31 + 1, 1<<32 - 1, 1 << 32, 1<<32 + 1, 1 << 33, math.MaxInt64 - 1, math.MaxInt64} {
		want := int64(int32(n)) == n
		for _, s := range []api.Schema{{}, schema(t, plain)} {
			rightIs(t, s, typ(t, "Int"), number(n), want)
			rightIs(t, s, typ(t, "Int!"), number(n), want)
			rightIs(t, s, typ(t, "[Int]"), list(number(0), number(n)), want)
			rightIs(t, s, typ(t, "[[Int]!]"), number(n), want)
			rightIs(t, s, typ(t, "ID"), number(n), true)
			rightIs(t, s, typ(t, "[ID!]!"), list(number(n)), true)
			rightIs(t, s, typ(t, "String"), number(n), false)
			rightIs(t, s, typ(t, "Boolean"), number(n), false)
		}
	}
}

// P10.1: an Enum that is one of the Parts, and nothing else.
func TestEnums(t *testing.T) {
	rows(t, schema(t, plain),
		row{"E", `X;Y;on;type;null;$v;$X`, `Z;x;y;XY;E;ON;"X";"";1;0;1.5;true;false;{};{X:1};{a:X};[];[X];[null];[$v]`},
		row{"E!", `X;Y;$v`, `null;Z;"X"`},
		row{"F", `Y;Z`, `X;on`},
		row{"[E!]", `X;[];[X];[X Y $v on];null;$v`, `Z;[Z];[X Z];[X "X"];[null];"X";[[X]]`},
	)
	for _, parts := range [][]string{nil, {}, {"Y"}, {"", "x", "XX", "X ", "\xff"}} {
		rightIs(t, of(enum("E", parts...)), named("E"), single(api.Enum, "X"), false)
		rightIs(t, of(enum("E", append(parts, "X")...)), named("E"), single(api.Enum, "X"), true)
		rightIs(t, of(enum("E", append(parts, "X", "X")...)), named("E"), single(api.Text, "X"), false)
	}
	words := enum("E", "true", "false", "null", "", "1")
	for _, v := range []api.Value{{Kind: api.Bool}, {Kind: api.Bool, N: 1}, single(api.Enum, "true"), single(api.Enum, "null"), single(api.Enum, ""), single(api.Text, ""), number(1)} {
		rightIs(t, of(words), named("E"), v, false)
	}
}

// P10.1: Maps for an Input: each Name once and known, each value right, and all there that must be.
func TestInput(t *testing.T) {
	rows(t, schema(t, plain),
		row{"I", `{a:1};{a:$v};{a:1 b:2};{b:2 a:1};{a:1 b:[null 2]};{a:1 b:null};{a:1 b:$v};{a:1 c:null d:null};{d:Y c:{a:2} b:[] a:1};{a:1 c:{c:{c:{a:1}a:1}a:1}};{a:1 c:$v};null;$v`, `{};{a:null};{a:"1"};{a:2147483648};{a:[1]};{b:1};{b:[1] c:{a:1} d:X};{a:1 e:1};{e:1};{A:1};{a:1 A:1};{a:1 a:1};{a:1 b:1 a:$v};{a:1 b:null b:null};{b:1 b:1};{a:1 c:{}};{a:1 c:{a:1 c:{a:null}}};{a:1 c:[{a:1}]};{a:1 d:"X"};{a:1 d:Z};{a:1 b:[[1]]};{a:1 c:1};{a:1 __typename:1};1;"a";true;X;I;[];[{a:1}];[null];[$v]`},
		row{"I!", `{a:1};{a:1 d:X};$v`, `null;{};1`},
		row{"J", `{i:{a:1}l:[]};{l:[[]] i:$v};{l:$v i:$v};{i:{a:1} l:[[{i:$v l:[]}]]};{i:{a:1}l:{i:{a:1}l:[]}};{i:{a:1}l:[null $v]};{i:{a:1}l:[[$v]]};{i:{a:1}l:[]e:Y};{i:{a:1}l:[]s:"s"e:$v}`, `{};{i:{a:1}};{l:[]};{e:X s:"s"};{i:{}l:[]};{i:null l:[]};{i:{a:1}l:null};{i:{a:1}l:[[null]]};{i:{a:1}l:[{i:$v l:[]}]};{i:{a:1}l:[]e:null};{i:{a:1}l:[]s:1};{i:{a:1}l:[[{i:$v}]]}`},
		row{"K", `{};{k:null};{k:{}};{k:{k:{k:{b:true}}}b:false};{k:$v b:$v}`, `{k:1};{k:{k:{k:1}}};{k:{b:1}};{b:1};{k:[{}]};{k:{k:{}k:{}}}`},
		row{"Loop", `{loop:$v};{loop:{loop:{loop:$v}}}`, `{};{loop:null};{loop:{}};{loop:{loop:{}}};{loop:{loop:null}}`},
		row{"[I!]", `{a:1};[{a:1}];[{a:1}$v{a:2}];[]`, `{};[{}];[{a:1}{}];[{a:1}{a:1 a:2}];[null];[{a:1}1];1`},
		row{"[[I]]", `{a:1};[[{a:1}{a:2}][{a:3}]];[null $v []]`, `[{a:1}];[[{a:1}{}]];{}`},
	)
}

// P10.1: which Params have to be there, alone and beside another one.
func TestNeeded(t *testing.T) {
	a, b := param("a", "Int"), param("b", "Int")
	items, deep := a, must(a)
	items.T.Lists, items.T.Musts = 1, 2 // [Int!]
	deep.T.Lists = 5
	for _, x := range []struct {
		p     api.Param
		empty bool // a Map without it is right
		given bool // a Map with a Var for it is right
	}{
		{a, true, true},
		{items, true, true},
		{has(a), true, true},
		{must(a), false, true},
		{must(items), false, true},
		{has(must(a)), true, true},
		{has(must(items)), true, true},
		{must(param("a", "Z")), false, true},
		{must(param("a", "Query")), false, true},
		{must(param("a", "a b")), true, false},
		{deep, true, false},
	} {
		for _, s := range []api.Schema{of(input("I", x.p)), of(input("I", x.p, b)), of(input("I", has(must(b)), x.p, b))} {
			for _, text := range []string{"I", "I!", "[I]", "[[I!]!]!"} {
				rightIs(t, s, typ(t, text), mapped(), x.empty)
				rightIs(t, s, typ(t, text), mapped(member("a", variable("v"))), x.given)
			}
			rightIs(t, s, typ(t, "[I]"), list(variable("v"), mapped()), x.empty)
		}
		rightIs(t, of(input("I", x.p, b)), named("I"), mapped(member("b", number(1))), x.empty)
		rightIs(t, of(input("I", must(b), x.p)), named("I"), mapped(member("b", number(1))), x.empty)
		rightIs(t, of(input("I", x.p, must(b))), named("I"), mapped(member("a", variable("v"))), false)
	}
	for _, s := range []api.Schema{of(input("I")), of(input("I", []api.Param{}...))} {
		rightIs(t, s, named("I"), mapped(), true)
		rightIs(t, s, named("I"), mapped(member("a", variable("v"))), false)
	}
}

// P10.1: lists, lists of lists, and values that stand for them.
func TestLists(t *testing.T) {
	rows(t, schema(t, plain),
		row{"[Int]", `1;null;$v;[];[1];[1 2 3];[null];[1 null $v];[$v $v]`, `"1";[[1]];[[]];[[$v]];["1"];[1 2147483648];[1 "a" 2];2147483648;[1 [2]];{};[{}];X`},
		row{"[Int!]", `1;null;$v;[];[1];[1 $v]`, `[null];[1 null];[null 1];[[1]];"1"`},
		row{"[Int]!", `1;$v;[];[1];[null];[null $v]`, `null;[[]];"1"`},
		row{"[Int!]!", `1;$v;[];[1];[$v 1]`, `null;[null];[1 null];["1"]`},
		row{"[[Int]]", `1;null;$v;[];[[]];[[1]];[[1 2][][null 3]];[null];[$v];[null $v [1]];[[$v]]`, `[1];[[1] 2];[1 [2]];["1"];"1";[[["1"]]];[[[1]]];[[[]]];[["1"]];[{}];[true];[X];[1.5];[[1]"a"]`},
		row{"[[Int!]]", `1;null;[null];[[1]];[[1]null]`, `[[null]];[[1 null]];[1]`},
		row{"[[Int]!]", `1;null;[];[[null]];[$v]`, `[null];[[1]null];[1]`},
		row{"[[Int]]!", `1;[null];[[null]];$v`, `null;[1]`},
		row{"[[Int!]!]!", `1;[];[[]];[[1][$v]$v]`, `null;[null];[[null]];[1]`},
		row{"[[[Int]]]", `1;null;[[[1]]];[[]];[[null]];[[$v][]];[null [[null]]]`, `[1];[[1]];[[[1]] [2]];[[[1] 2]];[[[[1]]]]`},
		row{"[[[[Int]]]]", `1;[[[[1 2]]]];[[[[]]]];[[[]]];[[]];[];[[[null]]];[[[$v]]]`, `[1];[[1]];[[[1]]];[[[[[1]]]]];"1"`},
		row{"[[[[Int!]!]!]!]!", `1;$v;[[[[1 $v]]]];[[[$v]]]`, `null;[null];[[null]];[[[null]]];[[[[null]]]]`},
		row{"[[ID]]", `1;"1";[["1" 2]]`, `["1"];[2];[["1"] 2];true;X`},
		row{"[[E]]", `X;[[X]]`, `[X];Z;[[Z]]`},
		row{"[Z]", `null;$v;[];[null];[$v];[null $v]`, `1;"1";X;{};[1];[{}];[[]]`},
		row{"[[Z!]]", `[[]];[null];[[$v]]`, `[[null]];1;[[1]]`},
	)
}
