package print

import (
	"math"
	"slices"
	"strings"
	"testing"

	"seine/api"
	"seine/every"
	"seine/parse"
	"seine/token"
)

func field(name string, l ...api.Sel) api.Sel { return api.Sel{Name: name, Sels: l} }

func spread(name string, l ...api.Dir) api.Sel {
	return api.Sel{Kind: api.Spread, Name: name, Dirs: l}
}

func inline(on string, l ...api.Sel) api.Sel { return api.Sel{Kind: api.Inline, On: on, Sels: l} }

func dir(name string, l ...api.Member) api.Dir { return api.Dir{Name: name, Args: l} }

func member(name string, v api.Value) api.Member { return api.Member{Name: name, V: v} }

func number(n int64) api.Value { return api.Value{Kind: api.Int, N: n} }

func said(kind int, s string) api.Value { return api.Value{Kind: kind, S: s} }

func list(l ...api.Value) api.Value { return api.Value{Kind: api.List, L: l} }

func mapped(l ...api.Member) api.Value { return api.Value{Kind: api.Map, M: l} }

// query is a document of one Query of selections alone.
func query(l ...api.Sel) api.Doc { return api.Doc{Ops: []api.Op{{Sels: l}}} }

// nested puts v into so many Lists and Maps, which take turns.
func nested(n int, v api.Value) api.Value {
	for k := range n {
		if k%2 == 0 {
			v = list(v)
		} else {
			v = mapped(member("a", v), member("b", number(1)))
		}
	}
	return v
}

// deepSels puts x into so many Fields and Inlines, which take turns.
func deepSels(n int, x api.Sel) api.Sel {
	for k := range n {
		switch k % 3 {
		case 0:
			x = field("a", x)
		case 1:
			x = inline("T", field("b"), x)
		case 2:
			x = inline("", x, spread("F"))
		}
	}
	return x
}

// read reads a document that has to be one.
func read(t *testing.T, s string) api.Doc {
	t.Helper()
	d, e := parse.Read(s)
	if e != api.OK {
		t.Fatalf("%.300s: the error %d", s, e)
	}
	return d
}

// rightIs holds whether d is Right, by each of the functions, against what is wanted.
func rightIs(t *testing.T, what string, d api.Doc, want bool) {
	t.Helper()
	l, tokens := Tokens(d)
	s, text := Text(d)
	if Right(d) != want || tokens != want || text != want || len(l) > 0 != want || s != "" != want {
		t.Errorf("%s: Right %v, Tokens %v of %d, Text %.200s, %v, want %v", what, Right(d), tokens, len(l), s, text, want)
	}
}

// P7.2: texts of documents that were read.
func TestText(t *testing.T) {
	for s, want := range map[string]string{
		"{a,b:c}":                        "query { a b : c }",
		"query{a}":                       "query { a }",
		"query Q{a}":                     "query Q { a }",
		"mutation{a}":                    "mutation { a }",
		"mutation M{a}":                  "mutation M { a }",
		"query mutation{query}":          "query mutation { query }",
		"fragment F on T{a}":             "fragment F on T { a }",
		"fragment fragment on on{on:on}": "fragment fragment on on { on : on }",
		"{a}{b}query{c}":                 "query { a } query { b } query { c }",
		"fragment F on T{a}{b}fragment G on T{c}mutation M{d}fragment F on U{e}query{f}": "query { b } mutation M { d } query { f } fragment F on T { a } fragment G on T { c } fragment F on U { e }",

		"query($x:T){a}": "query ( $ x : T ) { a }",
		"query Q($x:[[T!]!]!=null,$y:[[[[U]]]]=[E{a:1}]$z:V!){a}": "query Q ( $ x : [ [ T ! ] ! ] ! = null $ y : [ [ [ [ U ] ] ] ] = [ E { a : 1 } ] $ z : V ! ) { a }",
		"mutation($on:on!=\"$\")@d@e(f:1 g:[]){a}":                "mutation ( $ on : on ! = \"$\" ) @ d @ e ( f : 1 g : [ ] ) { a }",
		"query@d{a}fragment F on T@d@d(e:{f:-0}){a}":              "query @ d { a } fragment F on T @ d @ d ( e : { f : 0 } ) { a }",

		"{a:a b}":                               "query { a : a b }",
		"{a(b:1)c:d(e:$f g:\"h\")}":             "query { a ( b : 1 ) c : d ( e : $ f g : \"h\" ) }",
		"{a@d b@e(f:$g)@h{c}d:e@i{f:g(h:$i)}j}": "query { a @ d b @ e ( f : $ g ) @ h { c } d : e @ i { f : g ( h : $ i ) } j }",
		"{a{b{c}}}":                             "query { a { b { c } } }",
		"{a{b{c d}e}f{g}h}":                     "query { a { b { c d } e } f { g } h }",
		"{a{b}c{d{e}f{g}}}":                     "query { a { b } c { d { e } f { g } } }",
		"{...F...F@d(e:$f)@g a}":                "query { ... F ... F @ d ( e : $ f ) @ g a }",
		"{...{a}...on T{a}...@d{a}...on on@d(e:$f)@d{...{...F}b}}": "query { ... { a } ... on T { a } ... @ d { a } ... on on @ d ( e : $ f ) @ d { ... { ... F } b } }",
		"{...on a...on on{on}...query}":                            "",

		"{a(b:[null true,false 0 -7 1.50 1E5 E \"\" $v []{}])}":                                "query { a ( b : [ null true false 0 -7 1.50 1E5 E \"\" $ v [ ] { } ] ) }",
		"{a(b:{c:{d:[[$e]]}f:9223372036854775807 g:9223372036854775808})}":                     "query { a ( b : { c : { d : [ [ $ e ] ] } f : 9223372036854775807 g : 9223372036854775808 } ) }",
		"{a(b:\"\"\"\n  c\n    \\\"\"\"d\n\"\"\" e:\"\\u0041\\n\\ud83d\\ude00\\/\t\ufeff#\")}": "query { a ( b : \"c\\n  \\\"\\\"\\\"d\" e : \"A\\n\\ud83d\\ude00/\\u0009\ufeff#\" ) }",
		"\ufeff#x\n{,a,,#}\r},": "query { a }",
	} {
		d, e := parse.Read(s)
		got, ok := Text(d)
		if got != want || ok != (want != "") || ok != (e == api.OK) {
			t.Errorf("Text of %s = %s, %v, want %s", s, got, ok, want)
		}
		if l, _ := Tokens(d); !slices.Equal(l, tokensOf(t, want)) {
			t.Errorf("Tokens of %s = %v, want those of %s", s, l, want)
		}
	}
}

// P7.2: the tokens have what a Quote says, not how it is written.
func TestTokens(t *testing.T) {
	mark := func(s string) api.Token { return api.Token{Kind: api.Punct, S: s} }
	word := func(s string) api.Token { return api.Token{Kind: api.Word, S: s} }
	x := field("a")
	x.Args = []api.Member{member("b", said(api.Text, "\"\n😀")), member("c", said(api.Num, "1e5")), member("d", number(math.MinInt64)), member("e", said(api.Enum, "on"))}
	args := []api.Token{word("a"), mark("("), word("b"), mark(":"), {Kind: api.Quote, S: "\"\n😀"}, word("c"), mark(":"), {Kind: api.Point, S: "1e5"}, word("d"), mark(":"), {Kind: api.Digits, S: "-9223372036854775808"}, word("e"), mark(":"), word("on"), mark(")")}
	if got, ok := Sels(x); !ok || !slices.Equal(got, args) {
		t.Errorf("Sels = %v, %v", got, ok)
	}
	want := slices.Concat([]api.Token{word("query"), mark("{")}, args, []api.Token{mark("}")})
	if got, ok := Tokens(query(x)); !ok || !slices.Equal(got, want) {
		t.Errorf("Tokens = %v, %v", got, ok)
	}
	text := `query { a ( b : "\"\n\ud83d\ude00" c : 1e5 d : -9223372036854775808 e : on ) }`
	if got, ok := Text(query(x)); !ok || got != text {
		t.Errorf("Text = %s, %v", got, ok)
	}
}

// P7.2: selections by themselves.
func TestSels(t *testing.T) {
	show := func(l ...api.Sel) string {
		got, ok := Sels(l...)
		s, _ := token.Print(got...)
		if !ok && len(got) > 0 {
			t.Errorf("Sels(%+v) = %v, false", l, got)
		}
		if !ok {
			return "none"
		}
		return s
	}
	aliased := api.Sel{Alias: "a", Name: "b", Args: []api.Member{member("x", said(api.Var, "v"))}, Sels: []api.Sel{field("c")}}
	for _, x := range []struct {
		l    []api.Sel
		want string
	}{
		{nil, "none"},
		{[]api.Sel{}, "none"},
		{[]api.Sel{{}}, "none"},
		{[]api.Sel{field("a")}, "a"},
		{[]api.Sel{field("a"), field("a", field("b")), spread("F"), field("c")}, "a a { b } ... F c"},
		{[]api.Sel{aliased, inline("", field("a")), inline("T", inline("", field("a")), field("b"))}, "a : b ( x : $ v ) { c } ... { a } ... on T { ... { a } b }"},
		{[]api.Sel{field("a"), {}}, "none"},
		{[]api.Sel{field("a"), spread("on")}, "none"},
		{[]api.Sel{inline("T"), field("a")}, "none"},
		{[]api.Sel{field("a", field("b", spread("")))}, "none"},
	} {
		if got := show(x.l...); got != x.want {
			t.Errorf("Sels(%+v) are %s, want %s", x.l, got, x.want)
		}
	}
}

// P7.1: a document needs a definition; an operation, a fragment and an Inline need selections.
func TestNothingThere(t *testing.T) {
	a, none := []api.Sel{field("a")}, []api.Sel{}
	op, frag := api.Op{Sels: a}, api.Frag{Name: "F", On: "T", Sels: a}
	for what, d := range map[string]api.Doc{
		"no list":           {},
		"empty lists":       {Ops: []api.Op{}, Frags: []api.Frag{}},
		"no selections":     {Ops: []api.Op{{}}},
		"empty selections":  {Ops: []api.Op{{Kind: api.Mutation, Name: "M", Sels: none}}},
		"beside another":    {Ops: []api.Op{op, {}, op}, Frags: []api.Frag{frag}},
		"a bare fragment":   {Frags: []api.Frag{{Name: "F", On: "T"}}},
		"an empty fragment": {Ops: []api.Op{op}, Frags: []api.Frag{frag, {Name: "G", On: "T", Sels: none}}},
		"a bare Inline":     query(inline("T")),
		"an empty Inline":   query(field("a", api.Sel{Kind: api.Inline, Sels: none}, field("b"))),
		"a zero selection":  query(api.Sel{}),
		"a zero fragment":   {Ops: []api.Op{op}, Frags: []api.Frag{{}}},
	} {
		rightIs(t, what, d, false)
	}
	for what, d := range map[string]api.Doc{
		"an operation":             {Ops: []api.Op{op}},
		"a fragment":               {Frags: []api.Frag{frag}},
		"both, and empty lists":    {Ops: []api.Op{{Vars: []api.VarDef{}, Dirs: []api.Dir{}, Sels: a}}, Frags: []api.Frag{frag}},
		"a field with empty lists": query(api.Sel{Name: "a", Args: []api.Member{}, Dirs: []api.Dir{{Name: "d", Args: []api.Member{}}}, Sels: none}),
		"a Spread with the same":   query(api.Sel{Kind: api.Spread, Name: "F", Args: []api.Member{}, Dirs: []api.Dir{}, Sels: none}),
		"many":                     {Ops: slices.Repeat([]api.Op{op}, 40), Frags: slices.Repeat([]api.Frag{frag}, 40)},
	} {
		rightIs(t, what, d, true)
	}
}

// P7.1: what does not belong to the Kind of a selection, and Kinds that there are not.
func TestKindsOfSelections(t *testing.T) {
	args, sels := []api.Member{member("x", number(1))}, []api.Sel{field("b")}
	for what, x := range map[string]api.Sel{
		"a field on a type":          {Name: "a", On: "T"},
		"a field on nothing, nested": field("a", api.Sel{Name: "a", On: "T", Sels: sels}),
		"a field without a name":     {Alias: "a"},
		"a Spread with an Alias":     {Kind: api.Spread, Alias: "a", Name: "F"},
		"a Spread with arguments":    {Kind: api.Spread, Name: "F", Args: args},
		"a Spread on a type":         {Kind: api.Spread, Name: "F", On: "T"},
		"a Spread with selections":   {Kind: api.Spread, Name: "F", Sels: sels},
		"a Spread without a name":    {Kind: api.Spread},
		"a Spread of on":             {Kind: api.Spread, Name: "on"},
		"an Inline with a name":      {Kind: api.Inline, Name: "F", Sels: sels},
		"an Inline with an Alias":    {Kind: api.Inline, Alias: "a", On: "T", Sels: sels},
		"an Inline with arguments":   {Kind: api.Inline, On: "T", Args: args, Sels: sels},
		"an Inline on no name":       {Kind: api.Inline, On: "1", Sels: sels},
	} {
		rightIs(t, what, query(x), false)
		rightIs(t, what+" behind another", query(field("c"), field("d", field("e"), x)), false)
		rightIs(t, what+" in a fragment", api.Doc{Frags: []api.Frag{{Name: "F", On: "T", Sels: []api.Sel{inline("", x)}}}}, false)
	}
	for _, kind := range []int{-1, 3, 4, 256, 1 << 32, math.MaxInt, math.MinInt} {
		for _, x := range []api.Sel{{Kind: kind}, {Kind: kind, Name: "a"}, {Kind: kind, Sels: sels}, {Kind: kind, On: "T", Sels: sels}} {
			rightIs(t, "a Kind that there is not", query(x), false)
		}
		if kind != 1 {
			rightIs(t, "an operation of no Kind", api.Doc{Ops: []api.Op{{Kind: kind, Sels: sels}}}, false)
		}
	}
	rightIs(t, "an operation of the Kind 2", api.Doc{Ops: []api.Op{{Kind: 2, Name: "S", Sels: sels}}}, false)
}

// P7.1: selections nested in MaxDeep others and in fewer, whatever they are of and wherever they stand.
func TestDeepSelections(t *testing.T) {
	frames := []func(x api.Sel) api.Sel{
		func(x api.Sel) api.Sel { return field("a", x) },
		func(x api.Sel) api.Sel { return inline("", x) },
		func(x api.Sel) api.Sel { return inline("T", field("b"), x, field("d")) },
	}
	for l := range every.List(3, frames...) {
		for n := 0; n < 20 && len(l) > 0; n++ {
			x := field("x")
			for k := range n {
				x = l[k%len(l)](x)
			}
			rightIs(t, "a query", query(x), n < 16)
			rightIs(t, "behind others", api.Doc{Ops: []api.Op{{Sels: []api.Sel{field("a")}}, {Kind: api.Mutation, Name: "M", Sels: []api.Sel{field("a"), x}}}}, n < 16)
			rightIs(t, "a fragment", api.Doc{Frags: []api.Frag{{Name: "F", On: "T", Sels: []api.Sel{x}}}}, n < 16)
			if got, ok := Sels(field("a"), x); ok != (n < 16) || len(got) > 0 != ok {
				t.Errorf("Sels nested in %d others: %v", n, ok)
			}
			holds(t, query(field("a"), x, field("b")))
		}
	}
	rightIs(t, "selections beside one another", query(slices.Repeat([]api.Sel{deepSels(15, field("a"))}, 20)...), true)
	for _, n := range []int{600, 1 << 12} {
		rightIs(t, "very deep selections", query(deepSels(n, field("a"))), false)
	}
}

// P7.1: values nested in so many selections and values.
func TestDeepValues(t *testing.T) {
	for sels := range 17 {
		for n := range 19 {
			for _, leaf := range []api.Value{number(1), said(api.Var, "v"), said(api.Text, "[[")} {
				v := nested(n, leaf)
				at := []api.Member{member("y", list()), member("x", v)}
				f, g, s, i := field("f", field("g")), field("h"), spread("F", dir("c"), dir("d", at...)), inline("", field("f"))
				f.Args, g.Dirs, i.Dirs = at, []api.Dir{dir("d", at...)}, []api.Dir{dir("d", at...)}
				for k, x := range []api.Sel{f, g, s, i} {
					brackets := sels + 1 + max(n, 1)
					if k == 0 || k == 3 {
						brackets = max(brackets, sels+2)
					}
					rightIs(t, "a value in selections", query(deepSels(sels, x)), brackets <= 16)
				}
			}
		}
	}
	for n := range 20 {
		for _, v := range []api.Value{nested(n, number(1)), nested(max(0, n-1), list())} {
			at := []api.Dir{dir("d", member("x", list()), member("x", v))}
			a := []api.Sel{field("a")}
			want := n <= 16
			rightIs(t, "a default", api.Doc{Ops: []api.Op{{Vars: []api.VarDef{{Name: "x", T: api.Type{Name: "T"}, Has: true, Default: v}}, Sels: a}}}, want)
			rightIs(t, "an operation's directive", api.Doc{Ops: []api.Op{{Dirs: at, Sels: []api.Sel{deepSels(15, field("a"))}}}}, want)
			rightIs(t, "a fragment's directive", api.Doc{Frags: []api.Frag{{Name: "F", On: "T", Dirs: at, Sels: a}}}, want)
		}
	}
	for _, n := range []int{600, 1 << 12} {
		x := field("a")
		x.Args = []api.Member{member("x", nested(n, number(1)))}
		rightIs(t, "a very deep value", query(x), false)
	}
}

// P7.1: where a value with a Var may stand, and where it may not.
func TestFixed(t *testing.T) {
	free := []api.Value{said(api.Var, "v"), list(number(1), said(api.Var, "v")), mapped(member("a", number(1)), member("b", list(mapped(member("c", said(api.Var, "v"))))))}
	fixed := []api.Value{{}, number(1), said(api.Text, "$v"), list(), mapped(member("v", said(api.Enum, "v")))}
	a := []api.Sel{field("a")}
	for k, v := range append(fixed, free...) {
		dirs := []api.Dir{dir("d"), dir("e", member("x", number(1)), member("y", v))}
		for _, kind := range []int{api.Query, api.Mutation} {
			rightIs(t, "a default", api.Doc{Ops: []api.Op{{Kind: kind, Vars: []api.VarDef{{Name: "v", T: api.Type{Name: "T"}}, {Name: "w", T: api.Type{Name: "T"}, Has: true, Default: v}}, Sels: a}}}, k < len(fixed))
			rightIs(t, "an operation's directive", api.Doc{Ops: []api.Op{{Kind: kind, Dirs: dirs, Sels: a}}}, k < len(fixed))
		}
		rightIs(t, "a fragment's directive", api.Doc{Frags: []api.Frag{{Name: "F", On: "T", Dirs: dirs, Sels: a}}}, k < len(fixed))
		x, y, z := field("a"), spread("F", dirs...), inline("T", a...)
		x.Args, x.Dirs, z.Dirs = dirs[1].Args, dirs, dirs
		for _, s := range []api.Sel{x, y, z, field("b", x), inline("", field("b", z))} {
			rightIs(t, "selections", query(s), true)
			rightIs(t, "a fragment's selections", api.Doc{Frags: []api.Frag{{Name: "F", On: "T", Dirs: []api.Dir{dir("d")}, Sels: []api.Sel{s}}}}, true)
		}
	}
}

// P7.1: values that are not Plain, wherever values stand.
func TestValuesNotPlain(t *testing.T) {
	for _, bad := range []api.Value{{Kind: -1}, {Kind: 9}, {Kind: api.Null, N: 1}, {Kind: api.Bool, N: 2}, {Kind: api.Int, S: "1"}, said(api.Num, "1"), said(api.Num, ""), said(api.Text, "\xff"), said(api.Enum, "true"), said(api.Enum, ""), said(api.Enum, "1"), said(api.Var, ""), said(api.Var, "1"), {Kind: api.List, M: []api.Member{{}}}, mapped(member("", number(1))), mapped(member("a b", number(1)))} {
		for _, v := range []api.Value{bad, list(number(1), bad), mapped(member("a", list(bad)))} {
			at := []api.Member{member("x", number(1)), member("y", v)}
			x, y, z := field("a"), spread("F", dir("d", at...)), inline("T", field("a"))
			x.Args, z.Dirs = at, []api.Dir{dir("c"), dir("d", at...)}
			a := []api.Sel{field("a")}
			for _, d := range []api.Doc{query(x), query(y), query(z), query(field("a", field("b"), x)),
				{Ops: []api.Op{{Dirs: []api.Dir{dir("d", at...)}, Sels: a}}},
				{Frags: []api.Frag{{Name: "F", On: "T", Dirs: []api.Dir{dir("d", at...)}, Sels: a}}},
				{Ops: []api.Op{{Vars: []api.VarDef{{Name: "x", T: api.Type{Name: "T"}, Has: true, Default: v}}, Sels: a}}},
				{Ops: []api.Op{{Vars: []api.VarDef{{Name: "x", T: api.Type{Name: "T"}, Default: v}}, Sels: a}}},
			} {
				rightIs(t, "a value that is not Plain", d, false)
			}
		}
	}
}

// P7.2: a text of MaxText bytes, and one of one byte more.
func TestLongTexts(t *testing.T) {
	for what, made := range map[string]func(n int) api.Doc{
		"query {  }": func(n int) api.Doc { return query(field(strings.Repeat("a", n))) },
		"query { a :  }": func(n int) api.Doc {
			return query(api.Sel{Alias: "a", Name: strings.Repeat("_", n)})
		},
		"query { a ( b : \"\" ) }": func(n int) api.Doc {
			x := field("a")
			x.Args = []api.Member{member("b", said(api.Text, strings.Repeat("\n", n/2)+strings.Repeat("x", n%2)))}
			return query(x)
		},
		"query ( $ x : [  ! ] ! ) { a }": func(n int) api.Doc {
			return api.Doc{Ops: []api.Op{{Vars: []api.VarDef{{Name: "x", T: api.Type{Name: strings.Repeat("T", n), Lists: 1, Musts: 3}}}, Sels: []api.Sel{field("a")}}}}
		},
		"fragment F on  { a }": func(n int) api.Doc {
			return api.Doc{Frags: []api.Frag{{Name: "F", On: strings.Repeat("T", n), Sels: []api.Sel{field("a")}}}}
		},
		"mutation { a": func(n int) api.Doc {
			return api.Doc{Ops: []api.Op{{Kind: api.Mutation, Sels: append(slices.Repeat([]api.Sel{field("a")}, n/2-1), field("aaa"[:n%2+1]))}}}
		},
	} {
		for _, n := range []int{8190, 8191, 8192, 8193, 8194, 20000, 1 << 17} {
			d := made(n - len(what))
			s, ok := Text(d)
			if ok != (n <= 8192) || ok && len(s) != n || !ok && s != "" {
				t.Errorf("%s of %d bytes: %d bytes, %v", what, n, len(s), ok)
			}
			l, tokens := Tokens(d)
			if full, all := token.Print(l...); !Right(d) || !tokens || !all || len(full) != n {
				t.Errorf("%s of %d bytes: Right %v, Tokens %v, %d bytes", what, n, Right(d), tokens, len(full))
			}
			if again, e := parse.Read(s); ok && (e != api.OK || !sameDoc(again, d)) {
				t.Errorf("%s of %d bytes is not read as it was: %d", what, n, e)
			}
		}
	}
}

// again prints what s is read as, reads it, and reports whether s is a document.
func again(t *testing.T, s string) bool {
	t.Helper()
	d, e := parse.Read(s)
	if e != api.OK {
		return false
	}
	text, ok := Text(d)
	if !ok || !Right(d) {
		t.Fatalf("%s is read as what is not Right", s)
	}
	if got, e := parse.Read(text); e != api.OK || !sameDoc(got, d) {
		t.Errorf("%s is printed as %s, which is read as %+v, %d", s, text, got, e)
	}
	if more, ok := Text(d); !ok || more != text {
		t.Errorf("%s is printed as %s, then as %s", s, text, more)
	}
	return true
}

// P7.3: every short text between some beginnings and ends is printed so that it is read as it was.
func TestEveryShortText(t *testing.T) {
	for form, least := range map[string]int{"{?}": 1000, "{a?}": 2000, "{...?}": 500, "{a{?}b}": 1000, "query?{a}": 200, "fragment?{a}": 20, "{a(a:?)}": 200, "{a(a:[?])}": 1500, "query(?){a}": 20, "query($a:?){a}": 100, "query@a(a:?){a}": 100, "{a}?": 100} {
		count := 0
		for s := range every.Text(5, " a", " on", ":", "...", "{a", "}", "@a", "$a", "1", "[", "]", "!", "=") {
			if strings.Count(s, "{") != strings.Count(s, "}") || strings.Count(s, "[") != strings.Count(s, "]") {
				continue // nothing that is read
			}
			if again(t, strings.Replace(form, "?", s, 1)) {
				count++
			}
		}
		if count < least {
			t.Errorf("%s: %d texts are read, no more", form, count)
		}
	}
}
