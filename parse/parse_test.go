package parse

import (
	"fmt"
	"math"
	"strings"
	"testing"

	"seine/api"
)

// show tells what was read, whatever it is; a nil list and an empty one are the same.
func show(x any) string { return strings.ReplaceAll(fmt.Sprintf("%#v", x), "(nil)", "{}") }

func field(name string, l ...api.Sel) api.Sel { return api.Sel{Name: name, Sels: l} }

func spread(name string, l ...api.Dir) api.Sel {
	return api.Sel{Kind: api.Spread, Name: name, Dirs: l}
}

func inline(on string, l ...api.Sel) api.Sel { return api.Sel{Kind: api.Inline, On: on, Sels: l} }

func asked(alias, name string, l ...api.Member) api.Sel {
	return api.Sel{Alias: alias, Name: name, Args: l}
}

func dir(name string, l ...api.Member) api.Dir { return api.Dir{Name: name, Args: l} }

func directed(x api.Sel, l ...api.Dir) api.Sel {
	x.Dirs = l
	return x
}

func member(name string, v api.Value) api.Member { return api.Member{Name: name, V: v} }

func number(n int64) api.Value { return api.Value{Kind: api.Int, N: n} }

func truth(n int64) api.Value { return api.Value{Kind: api.Bool, N: n} }

func said(kind int, s string) api.Value { return api.Value{Kind: kind, S: s} }

func list(l ...api.Value) api.Value { return api.Value{Kind: api.List, L: l} }

func mapped(l ...api.Member) api.Value { return api.Value{Kind: api.Map, M: l} }

func typ(name string, lists, musts int) api.Type {
	return api.Type{Name: name, Lists: lists, Musts: musts}
}

// query is a document of one Query of selections alone.
func query(l ...api.Sel) api.Doc { return api.Doc{Ops: []api.Op{{Sels: l}}} }

// with is a document of one Query with variables.
func with(l ...api.VarDef) api.Doc {
	return api.Doc{Ops: []api.Op{{Vars: l, Sels: []api.Sel{field("a")}}}}
}

// reads holds what Read answers against documents that are written out.
func reads(t *testing.T, all map[string]api.Doc) {
	t.Helper()
	for s, want := range all {
		if got, e := Read(s); e != api.OK || show(got) != show(want) {
			t.Errorf("Read(%s) = %s, %d, want %s", s, show(got), e, show(want))
		}
	}
}

// refuses holds the errors of Read against those wanted.
func refuses(t *testing.T, want api.Errno, l ...string) {
	t.Helper()
	for _, s := range l {
		if got, e := Read(s); e != want || show(got) != show(api.Doc{}) {
			t.Errorf("Read(%.200s) = %s, %d, want the error %d", s, show(got), e, want)
		}
	}
}

// P6.1: each kind of definition, and which come in which list.
func TestDefinitions(t *testing.T) {
	a, b := []api.Sel{field("a")}, []api.Sel{field("b")}
	reads(t, map[string]api.Doc{
		"{a}":                              {Ops: []api.Op{{Kind: api.Query, Sels: a}}},
		"query{a}":                         {Ops: []api.Op{{Kind: api.Query, Sels: a}}},
		"query Q{a}":                       {Ops: []api.Op{{Kind: api.Query, Name: "Q", Sels: a}}},
		"mutation{a}":                      {Ops: []api.Op{{Kind: api.Mutation, Sels: a}}},
		"mutation M{a}":                    {Ops: []api.Op{{Kind: api.Mutation, Name: "M", Sels: a}}},
		"query query{a}":                   {Ops: []api.Op{{Name: "query", Sels: a}}},
		"query mutation{a}":                {Ops: []api.Op{{Name: "mutation", Sels: a}}},
		"mutation fragment{a}":             {Ops: []api.Op{{Kind: api.Mutation, Name: "fragment", Sels: a}}},
		"query on{a}":                      {Ops: []api.Op{{Name: "on", Sels: a}}},
		"query null{a}":                    {Ops: []api.Op{{Name: "null", Sels: a}}},
		"fragment F on T{a}":               {Frags: []api.Frag{{Name: "F", On: "T", Sels: a}}},
		"fragment true on on{a}":           {Frags: []api.Frag{{Name: "true", On: "on", Sels: a}}},
		"fragment fragment on fragment{a}": {Frags: []api.Frag{{Name: "fragment", On: "fragment", Sels: a}}},
		"{a}{b}":                           {Ops: []api.Op{{Sels: a}, {Sels: b}}},
		"fragment F on T{a} query Q{b} fragment F on U{b} mutation Q{a} {a}": {
			Ops:   []api.Op{{Name: "Q", Sels: b}, {Kind: api.Mutation, Name: "Q", Sels: a}, {Sels: a}},
			Frags: []api.Frag{{Name: "F", On: "T", Sels: a}, {Name: "F", On: "U", Sels: b}},
		},
		"query Q($x:T)@d{a}": {Ops: []api.Op{{Name: "Q", Vars: []api.VarDef{{Name: "x", T: typ("T", 0, 0)}}, Dirs: []api.Dir{dir("d")}, Sels: a}}},
		"mutation($x:T)@d@e(f:1){a}": {Ops: []api.Op{{Kind: api.Mutation, Vars: []api.VarDef{{Name: "x", T: typ("T", 0, 0)}},
			Dirs: []api.Dir{dir("d"), dir("e", member("f", number(1)))}, Sels: a}}},
		"query@d{a}":             {Ops: []api.Op{{Dirs: []api.Dir{dir("d")}, Sels: a}}},
		"fragment F on T@d@d{a}": {Frags: []api.Frag{{Name: "F", On: "T", Dirs: []api.Dir{dir("d"), dir("d")}, Sels: a}}},
		"\ufeff#x\n{,a,,},":      {Ops: []api.Op{{Sels: a}}},
	})
	refuses(t, api.ErrForm, "", " ", "#{a}", "a", "{a}a", "subscription{a}", "Query{a}", "queryQ{a}", "\"query\"{a}", "query", "mutation", "fragment", "query Q", "query A B{a}", "query \"A\"{a}", "query 1{a}", "query:{a}", "query A:B{a}",
		"query{}", "{}", "{", "}", "{a", "{a}}", "a}", "{{a}}", "query Q()", "query Q@d", "query @d Q{a}", "query @d ($x:T){a}", "{a} query", "mutation M fragment F on T{a}", "type T{a:B}", "schema{query:Q}", "extend{a}", "(a)", "[a]", "...F", "@d{a}", "$x", "query|{a}", "query&{a}",
		"fragment on on T{a}", "fragment on T{a}", "fragment F{a}", "fragment F T{a}", "fragment F On T{a}", "fragment F \"on\" T{a}", "fragment F on{a}", "fragment F on T", "fragment F on T{}", "fragment F on T T{a}", "fragment F on on on{a}", "fragment F on T!{a}", "fragment F on [T]{a}", "fragment F($x:T) on T{a}", "fragment F @d on T{a}", "fragment @d{a}", "fragment \"F\" on T{a}", "fragment 1 on T{a}", "fragment F on \"T\"{a}", "fragment{a}")
}

// P6.1: variables, with and without defaults.
func TestVariables(t *testing.T) {
	reads(t, map[string]api.Doc{
		"query($x:T){a}":                  with(api.VarDef{Name: "x", T: typ("T", 0, 0)}),
		"query($x:T=1){a}":                with(api.VarDef{Name: "x", T: typ("T", 0, 0), Has: true, Default: number(1)}),
		"query($x:T=null){a}":             with(api.VarDef{Name: "x", T: typ("T", 0, 0), Has: true}),
		"query($x:T!=[]){a}":              with(api.VarDef{Name: "x", T: typ("T", 0, 1), Has: true, Default: list()}),
		"query($x:[T!]={a:E}){a}":         with(api.VarDef{Name: "x", T: typ("T", 1, 2), Has: true, Default: mapped(member("a", said(api.Enum, "E")))}),
		"query($on:on $null:null!){a}":    with(api.VarDef{Name: "on", T: typ("on", 0, 0)}, api.VarDef{Name: "null", T: typ("null", 0, 1)}),
		"query($x:T=E$x:[U]! $y:V=0){a}":  with(api.VarDef{Name: "x", T: typ("T", 0, 0), Has: true, Default: said(api.Enum, "E")}, api.VarDef{Name: "x", T: typ("U", 1, 1)}, api.VarDef{Name: "y", T: typ("V", 0, 0), Has: true, Default: number(0)}),
		"query($x:[[T]!]!,$y:[[T!]]){a}":  with(api.VarDef{Name: "x", T: typ("T", 2, 3)}, api.VarDef{Name: "y", T: typ("T", 2, 4)}),
		"query(\n$x\n:\nT\n=\n\"$y\"){a}": with(api.VarDef{Name: "x", T: typ("T", 0, 0), Has: true, Default: said(api.Text, "$y")}),
	})
	refuses(t, api.ErrForm, "query(){a}", "query($){a}", "query($x){a}", "query($x:){a}", "query(x:T){a}", "query($x T){a}", "query($x:T", "query($x:T=", "query($x:T{a}", "query($x:T{a})", "query($x:T=){a}", "query($x:T==1){a}", "query($x:T 1){a}", "query($x:T=1 2){a}", "query($x=1){a}", "query($x=1:T){a}", "query($x::T){a}",
		"query($$x:T){a}", "query($1:T){a}", "query($\"x\":T){a}", "query($x:1){a}", "query($x:\"T\"){a}", "query($x:!T){a}", "query($x:T!!){a}", "query($x:[T){a}", "query($x:T]){a}", "query($x:[]){a}", "query($x:[T T]){a}", "query($x:[T,T]){a}", "query($x:$T){a}", "query($x:{T}){a}", "query($x:T)($y:T){a}", "query($x:T)){a}", "query[$x:T]{a}", "query($x:T @d){a}", "query($x:T=1 @d){a}", "query($x:T &){a}", "query{a}($x:T)", "($x:T){a}", "{a}($x:T)",
		"query($x:T=$y){a}", "query($x:T=[1 $y]){a}", "query($x:T=[[$y]]){a}", "query($x:T={a:$y}){a}", "query($x:T={a:[{b:$x}]}){a}")
}

// P6.1: fields, with and without an alias, arguments, directives and selections.
func TestFields(t *testing.T) {
	one := member("x", number(1))
	reads(t, map[string]api.Doc{
		"{a}":                            query(field("a")),
		"{a b,a}":                        query(field("a"), field("b"), field("a")),
		"{a:b}":                          query(asked("a", "b")),
		"{a:a}":                          query(asked("a", "a")),
		"{a b:c d}":                      query(field("a"), asked("b", "c"), field("d")),
		"{on}":                           query(field("on")),
		"{on:on on}":                     query(asked("on", "on"), field("on")),
		"{query mutation}":               query(field("query"), field("mutation")),
		"{fragment:null true:false}":     query(asked("fragment", "null"), asked("true", "false")),
		"{a(x:1)}":                       query(asked("", "a", one)),
		"{a(x:1 on:2,true:3 x:4)}":       query(asked("", "a", one, member("on", number(2)), member("true", number(3)), member("x", number(4)))),
		"{a:b(x:1)c}":                    query(asked("a", "b", one), field("c")),
		"{a@d}":                          query(directed(field("a"), dir("d"))),
		"{a@d(x:1)@on@d@null(x:1)}":      query(directed(field("a"), dir("d", one), dir("on"), dir("d"), dir("null", one))),
		"{a{b}}":                         query(field("a", field("b"))),
		"{a{b{c}d}e}":                    query(field("a", field("b", field("c")), field("d")), field("e")),
		"{a:b(x:1)@d(x:1){c}e}":          query(api.Sel{Alias: "a", Name: "b", Args: []api.Member{one}, Dirs: []api.Dir{dir("d", one)}, Sels: []api.Sel{field("c")}}, field("e")),
		"{a(x:$y z:[$x{w:$y}])@d(x:$y)}": query(directed(asked("", "a", member("x", said(api.Var, "y")), member("z", list(said(api.Var, "x"), mapped(member("w", said(api.Var, "y")))))), dir("d", member("x", said(api.Var, "y"))))),
	})
	refuses(t, api.ErrForm, "{a{}}", "{a:}", "{:a}", "{a:b:c}", "{a::b}", "{a:\"b\"}", "{a:1}", "{a:{b}}", "{a:...F}", "{\"a\"}", "{1}", "{1.5}", "{$a}", "{a$b}", "{!a}", "{a!}", "{a=b}", "{a|b}", "{a&b}", "{[a]}", "{a[b]}",
		"{a()}", "{a(}", "{a)}", "{a(b)}", "{a(b:)}", "{a(b:1}", "{a(b:1", "{a(b:1]}", "{a(:1)}", "{a(1)}", "{a(1:1)}", "{a(\"b\":1)}", "{a(b 1)}", "{a(b=1)}", "{a(b:1 2)}", "{a(b::1)}", "{a(b:c:1)}", "{a($b:1)}", "{a(b:1)(c:1)}", "{a[b:1]}", "{a((b:1))}", "{a(b:1){}}", "{(b:1)}", "{a{b}(c:1)}",
		"{a@}", "{a@@d}", "{a@1}", "{a@\"d\"}", "{a@$d}", "{a@d()}", "{a@d(x)}", "{a@d(x:1}", "{a@d(x:1)(y:1)}", "{a@d:e}", "{@d}", "{@d a}", "{a@d(x:1) y:1)}", "{a@d{}}", "{a{b}@d}", "{a@d(b:1", "{a@d", "{a@", "{a(", "{a(b", "{a(b:", "{a:", "{a:b", "{a{", "{a{b", "{a{b}")
}

// P6.1: a Spread has a name other than `on`; an Inline may have one behind `on`.
func TestSpreads(t *testing.T) {
	x := []api.Sel{field("x")}
	flag := member("if", said(api.Var, "v"))
	reads(t, map[string]api.Doc{
		"{...F}":                              query(spread("F")),
		"{...F...G a ...F}":                   query(spread("F"), spread("G"), field("a"), spread("F")),
		"{...query ...fragment ...null}":      query(spread("query"), spread("fragment"), spread("null")),
		"{...On ...one ..._}":                 query(spread("On"), spread("one"), spread("_")),
		"{...F on T{x}}":                      query(spread("F"), field("on"), field("T", x...)),
		"{...F@d@e(if:$v)a}":                  query(spread("F", dir("d"), dir("e", flag)), field("a")),
		"{... on T{x}}":                       query(inline("T", x...)),
		"{...on T{x}}":                        query(inline("T", x...)),
		"{...on on{x}}":                       query(inline("on", x...)),
		"{...on null{x}a}":                    query(inline("null", x...), field("a")),
		"{...on T@d(if:$v)@e{x}}":             query(directed(inline("T", x...), dir("d", flag), dir("e"))),
		"{...{x}}":                            query(inline("", x...)),
		"{...@d{x}}":                          query(directed(inline("", x...), dir("d"))),
		"{...@d(if:$v)@d{x}...{x}}":           query(directed(inline("", x...), dir("d", flag), dir("d")), inline("", x...)),
		"{...on T{...{...F x}...on U{...G}}}": query(inline("T", inline("", spread("F"), field("x")), inline("U", spread("G")))),
		"fragment F on T{...F}":               {Frags: []api.Frag{{Name: "F", On: "T", Sels: []api.Sel{spread("F")}}}},
	})
	refuses(t, api.ErrForm, "{...}", "{......}", "{......F}", "{...on}", "{...on{x}}", "{...on @d{x}}", "{...on T}", "{...on T x}", "{...on T @d}", "{...on T{}}", "{...on T U{x}}", "{...on on}", "{...on on on{x}}", "{...on T!{x}}", "{...on [T]{x}}", "{...on \"T\"{x}}", "{...on 1{x}}", "{...on:T{x}}", "{...on(x:1)}",
		"{...F{x}}", "{...F @d{x}}", "{...F(x:1)}", "{...F:G}", "{...\"F\"}", "{...1}", "{...$F}", "{...(x:1){x}}", "{...{}}", "{...@d}", "{...@d{}}", "{...@d F}", "{...@d on T{x}}", "{...:F}", "{a:...F}", "{a ...", "{...", "{...F", "{...on", "{...on T", "{...on T{", "{...on T{x", "{...on T{x}", "{...@", "..F", "...", "...on T{x}", "...{x}")
}

// texts are those of single values, with the values.
func texts() map[string]api.Value {
	out := map[string]api.Value{
		"null": {}, "true": truth(1), "false": truth(0),
		"0": number(0), "-0": number(0), "7": number(7), "-1": number(-1), "2147483648": number(math.MaxInt32 + 1),
		"9223372036854775807": number(math.MaxInt64), "-9223372036854775808": number(math.MinInt64), "9223372036854775806": number(math.MaxInt64 - 1), "-9223372036854775807": number(math.MinInt64 + 1),
		`""`: said(api.Text, ""), `"a"`: said(api.Text, "a"), `"null"`: said(api.Text, "null"), `"1"`: said(api.Text, "1"), `"[$a]"`: said(api.Text, "[$a]"), `"\u0041\n\ud83d\ude00"`: said(api.Text, "A\n😀"), "\"\"\"\n  a\n    \\\"\"\"b\n\"\"\"": said(api.Text, "a\n  \"\"\"b"), `"$"`: said(api.Text, "$"), `"{"`: said(api.Text, "{"),
		"[]": list(), "[1]": list(number(1)), "[1,2 1]": list(number(1), number(2), number(1)), "[[] [[]] {}]": list(list(), list(list()), mapped()), "[null true E \"E\" 1.0]": list(api.Value{}, truth(1), said(api.Enum, "E"), said(api.Text, "E"), said(api.Num, "1.0")),
		"{}": mapped(), "{a:1}": mapped(member("a", number(1))), "{b:1 a:2,b:3}": mapped(member("b", number(1)), member("a", number(2)), member("b", number(3))), "{null:null true:false on:on}": mapped(member("null", api.Value{}), member("true", truth(0)), member("on", said(api.Enum, "on"))), "{a:{b:{}}c:[{d:[]}]}": mapped(member("a", mapped(member("b", mapped()))), member("c", list(mapped(member("d", list()))))),
	}
	for _, s := range []string{"9223372036854775808", "-9223372036854775809", "18446744073709551616", "1" + strings.Repeat("0", 400), "0.0", "-0.0", "1.50", "1e5", "1E+05", "-1.5e-300", "9223372036854775807.0", "1e0"} {
		out[s] = said(api.Num, s)
	}
	for _, s := range []string{"E", "_", "A9", "on", "query", "fragment", "True", "NULL", "nulls", "tru", "falsey"} {
		out[s] = said(api.Enum, s)
	}
	return out
}

// variables are texts of values that have a `$`, with the values.
func variables() map[string]api.Value {
	return map[string]api.Value{
		"$a": said(api.Var, "a"), "$on": said(api.Var, "on"), "$null": said(api.Var, "null"), "$ true": said(api.Var, "true"), "$\n_": said(api.Var, "_"),
		"[$a]": list(said(api.Var, "a")), "[1 $a$b,$a]": list(number(1), said(api.Var, "a"), said(api.Var, "b"), said(api.Var, "a")), "[[],[[$a]]]": list(list(), list(list(said(api.Var, "a")))),
		"{a:$a}": mapped(member("a", said(api.Var, "a"))), "{a:1 b:[{c:$a}]}": mapped(member("a", number(1)), member("b", list(mapped(member("c", said(api.Var, "a")))))),
	}
}

func sameValue(t *testing.T, s string, fixed bool, want api.Value, wantE api.Errno) {
	t.Helper()
	if got, e := Value(s, fixed); e != wantE || show(got) != show(want) {
		t.Errorf("Value(%.200s, %v) = %s, %d, want %s, %d", s, fixed, show(got), e, show(want), wantE)
	}
}

// P6.1: every kind of value; one that is fixed has no `$`.
func TestValues(t *testing.T) {
	for s, want := range texts() {
		sameValue(t, s, true, want, api.OK)
		sameValue(t, s, false, want, api.OK)
		sameValue(t, " \ufeff,"+s+"#", true, want, api.OK)
	}
	for s, want := range variables() {
		sameValue(t, s, true, api.Value{}, api.ErrForm)
		sameValue(t, s, false, want, api.OK)
	}
	for _, s := range []string{"", " ", "#1", "$", "$$a", "$1", "$\"a\"", "$[a]", "!", "&", "(", ")", "...", ":", "=", "@", "|", "]", "}", "[", "{", "[1", "[[1]", "{a", "{a:", "{a:1", "{a:{b:1}", "[}", "{]", "[1}", "{a:1]", "{a}", "{a b}", "{a:}", "{a:1 b}", "{a::1}", "{a=1}", "{1:1}", "{\"a\":1}", "{$a:1}", "{:1}", "{1}", "{[]:1}", "[a:1]", "[1:2]", "[!]", "[...]", "(1)", "a!", "-a", "1-a", "$a!", "$a:1",
		"1 2", "a b", "a a", "$a $b", "$a b", "[] []", "[]]", "{}}", "{} {}", "{} 1", "\"a\" \"b\"", "null null", "1.5 1", "1)", "a,b", "01", "1.", "\"", "\xff", "😀"} {
		sameValue(t, s, false, api.Value{}, api.ErrForm)
		sameValue(t, s, true, api.Value{}, api.ErrForm)
	}
}

// P6.1: which values have to be fixed: the defaults, and the directives of an operation itself and of a fragment itself.
func TestFixed(t *testing.T) {
	fixed := []string{"query($x:T=%s){a}", "query($x:T=1 $y:T=%s){a}", "query@d(x:%s){a}", "query Q@d@e(y:1 x:%s){a}", "query($x:T)@d(x:%s){a}", "mutation@d(x:%s){a}", "fragment F on T@d(x:%s){a}", "{a}fragment F on T@d(y:1)@e(x:%s){a}"}
	free := []string{"{a(x:%s)}", "{a(y:1 x:%s)}", "{b:a(x:%s){c}}", "{a@d(x:%s)}", "{a@d@e(y:1 x:%s)}", "{...F@d(x:%s)}", "{...on T@d(x:%s){a}}", "{...@d(x:%s){a}}", "query@d(x:1){a(x:%s)}", "fragment F on T@d(x:1){a@d(x:%s)}", "fragment F on T{...on U{a(x:%s)}}", "mutation M@d{a(x:%s)}"}
	check := func(form, s string, want api.Errno) {
		t.Helper()
		if got, e := Read(fmt.Sprintf(form, s)); e != want {
			t.Errorf("Read of %s with %s = %s, %d, want the error %d", form, s, show(got), e, want)
		}
	}
	for k, form := range append(fixed, free...) {
		for s := range texts() {
			check(form, s, api.OK)
		}
		for s := range variables() {
			if k < len(fixed) {
				check(form, s, api.ErrForm)
			} else {
				check(form, s, api.OK)
			}
		}
	}
}

// P6.1: types, in lists and not, that must be there and that need not.
func TestTypes(t *testing.T) {
	check := func(s string, want api.Type, wantE api.Errno) {
		t.Helper()
		if got, e := Type(s); got != want || e != wantE {
			t.Errorf("Type(%q) = %v, %d, want %v, %d", s, got, e, want, wantE)
		}
	}
	for s, want := range map[string]api.Type{
		"a": typ("a", 0, 0), "Int!": typ("Int", 0, 1), "on": typ("on", 0, 0), "null!": typ("null", 0, 1), "_9": typ("_9", 0, 0),
		"[a]": typ("a", 1, 0), "[a!]": typ("a", 1, 2), "[a]!": typ("a", 1, 1), "[a!]!": typ("a", 1, 3), "[[a]!]!": typ("a", 2, 3), "[[a!]]": typ("a", 2, 4), "[[[a]!]]": typ("a", 3, 4), "[[[[a]]]]!": typ("a", 4, 1), "[[[[a!]]]]": typ("a", 4, 16), "[[[[a!]!]!]!]!": typ("a", 4, 31),
		" [ [ Int ] ! ]\n! #!": typ("Int", 2, 3), ",[,Int,,!],": typ("Int", 1, 2),
	} {
		check(s, want, api.OK)
	}
	for _, s := range []string{"", " ", "#a", "!", "!a", "a!!", "[a]!!", "[]", "[!]", "[", "[a", "[a!", "[[a]", "a]", "[a]]", "]", "]a[", "[a b]", "a b", "a a", "a[b]", "[a][b]", "[a] b", "a! b", "[a]! [b]", "1", "[1]", "\"a\"", "$a", "{a}", "(a)", "a:b", "a=1", "a|b", "a&b", "a@d", "...", "...a", "1.5", "01", "\"", "\xff", "[a!!]", "[![a]]", "a=", "a}"} {
		check(s, api.Type{}, api.ErrForm)
	}
}
