package print

import (
	"fmt"
	"reflect"
	"slices"
	"strings"
	"testing"
	"unicode/utf16"

	"seine/api"
	"seine/parse"
	"seine/token"
)

// The functions that end in `Text` write whatever they are given as if it were
// Right; what no text has is written as `?`, or left out.

func around(open string, l []string, end string) string {
	if len(l) == 0 {
		return ""
	}
	return open + strings.Join(l, ",") + end
}

func each[T any](l []T, text func(x T) string) []string {
	var out []string
	for _, x := range l {
		out = append(out, text(x))
	}
	return out
}

// quoteText writes s by units alone.
func quoteText(s string) string {
	out := ""
	for _, u := range utf16.Encode([]rune(s)) {
		out += fmt.Sprintf(`\u%04X`, u)
	}
	return `"` + out + `"`
}

func valueText(v api.Value) string {
	switch v.Kind {
	case api.Null:
		return "null"
	case api.Bool:
		return fmt.Sprint(v.N != 0)
	case api.Int:
		return fmt.Sprint(v.N)
	case api.Num, api.Enum:
		return v.S
	case api.Text:
		return quoteText(v.S)
	case api.Var:
		return "$" + v.S
	case api.List:
		return "[" + around("", each(v.L, valueText), "") + "]"
	case api.Map:
		return "{" + around("", each(v.M, argText), "") + "}"
	}
	return "?"
}

func argText(m api.Member) string { return m.Name + ":" + valueText(m.V) }

func dirText(d api.Dir) string { return "@" + d.Name + around("(", each(d.Args, argText), ")") }

func dirsText(l []api.Dir) string { return around("", each(l, dirText), "") }

func typeText(x api.Type) string {
	lists := min(max(0, x.Lists), 9)
	out := strings.Repeat("[", lists) + x.Name
	for i := lists; i >= 0; i-- {
		if x.Musts>>i&1 == 1 {
			out += "!"
		}
		if i > 0 {
			out += "]"
		}
	}
	return out
}

func varText(v api.VarDef) string {
	out := "$" + v.Name + ":" + typeText(v.T)
	if v.Has {
		out += "=" + valueText(v.Default)
	}
	return out
}

func selText(x api.Sel) string {
	out := dirsText(x.Dirs) + around("{", each(x.Sels, selText), "}")
	switch x.Kind {
	case api.Field:
		if x.Alias != "" {
			x.Alias += ":"
		}
		return x.Alias + x.Name + around("(", each(x.Args, argText), ")") + out
	case api.Spread:
		return "..." + x.Name + out
	case api.Inline:
		if x.On != "" {
			x.On = "on " + x.On
		}
		return "..." + x.On + out
	}
	return "?"
}

func bodyText(l []api.Sel) string { return "{" + around("", each(l, selText), "") + "}" }

func opText(op api.Op) string {
	kind := "?"
	switch op.Kind {
	case api.Query:
		kind = "query"
	case api.Mutation:
		kind = "mutation"
	}
	return kind + " " + op.Name + around("(", each(op.Vars, varText), ")") + dirsText(op.Dirs) + bodyText(op.Sels)
}

func fragText(f api.Frag) string {
	return "fragment " + f.Name + " on " + f.On + dirsText(f.Dirs) + bodyText(f.Sels)
}

func docText(d api.Doc) string {
	return strings.Join(append(each(d.Ops, opText), each(d.Frags, fragText)...), "")
}

// equal compares whatever it is given; a nil list and an empty one are equal.
func equal(a, b reflect.Value) bool {
	switch a.Kind() {
	case reflect.Slice:
		if a.Len() != b.Len() {
			return false
		}
		for k := range a.Len() {
			if !equal(a.Index(k), b.Index(k)) {
				return false
			}
		}
		return true
	case reflect.Struct:
		for k := range a.NumField() {
			if !equal(a.Field(k), b.Field(k)) {
				return false
			}
		}
		return true
	}
	return a.Equal(b)
}

func sameDoc(a, b api.Doc) bool { return equal(reflect.ValueOf(a), reflect.ValueOf(b)) }

// readable reports whether d is Right, as its text is read: no text is read as
// what is not, and what is Right is read of the text that docText writes.
func readable(d api.Doc) bool {
	got, e := parse.Read(docText(d))
	return e == api.OK && sameDoc(got, d)
}

// tokensOf returns the tokens of a text that is written out.
func tokensOf(t *testing.T, s string) []api.Token {
	t.Helper()
	l, e := token.Read(s)
	if e != api.OK {
		t.Fatalf("%.300s: the error %d", s, e)
	}
	return l
}

// holds holds whatever is told of d against what its text is read as.
func holds(t *testing.T, d api.Doc) {
	t.Helper()
	right := readable(d)
	var want []api.Token
	text := ""
	if right {
		want = tokensOf(t, docText(d))
		text, _ = token.Print(want...)
	}
	if got := Right(d); got != right {
		t.Errorf("Right(%+v) = %v", d, got)
	}
	if got, ok := Tokens(d); ok != right || !slices.Equal(got, want) {
		t.Errorf("Tokens(%+v) = %v, %v, want %v, %v", d, got, ok, want, right)
	}
	got, ok := Text(d)
	if ok != (right && len(text) <= 8192) || ok && got != text || !ok && got != "" {
		t.Errorf("Text(%+v) = %s, %v, want %s, %v", d, got, ok, text, right)
	}
	if again, e := parse.Read(got); ok && (e != api.OK || !sameDoc(again, d)) {
		t.Errorf("%s is read as %+v, %d, not as %+v", got, again, e, d)
	}
	for _, op := range d.Ops {
		holdsSels(t, op.Sels)
	}
	for _, f := range d.Frags {
		holdsSels(t, f.Sels)
	}
}

// holdsSels holds what Sels tells against what the text is read as.
func holdsSels(t *testing.T, l []api.Sel) {
	t.Helper()
	right := readable(query(l...))
	var want []api.Token
	if right {
		want = tokensOf(t, bodyText(l))
		want = want[1 : len(want)-1]
	}
	if got, ok := Sels(l...); ok != right || !slices.Equal(got, want) {
		t.Errorf("Sels(%+v) = %v, %v, want %v, %v", l, got, ok, want, right)
	}
}

// samples are texts of documents that have all that the grammar knows.
func samples() []string {
	return []string{
		`query Q($x:Int=1 $y:[A!]! $z:[[B]!]={a:[1.5 "q" null] b:{}}) @d @e(f:true g:[E]) {a(x:$x,y:[$y 1])@skip(if:true)@d{b}}`,
		`fragment F on T @f(x:{a:[1]}){...G @include(if:$v) ...{a} ... @i{b}} mutation @m{a}`,
		`{a:b(v:{b:{} c:[] d:null} w:$x){...on T @d(x:[$x]){c{d:e @f}} ...F} g @h(i:{j:$k})}`,
		`{query}mutation M{fragment}query on{a(b:9223372036854775808 c:-9223372036854775808)}fragment F on on{b}fragment F on T{c}`,
	}
}

// parts returns v and all parts of it, which can be set.
func parts(v reflect.Value) []reflect.Value {
	out := []reflect.Value{v}
	switch v.Kind() {
	case reflect.Slice:
		for k := range v.Len() {
			out = append(out, parts(v.Index(k))...)
		}
	case reflect.Struct:
		for k := range v.NumField() {
			out = append(out, parts(v.Field(k))...)
		}
	}
	return out
}

// instead returns what may stand at the place of a part.
func instead(v reflect.Value) []any {
	switch x := v.Interface().(type) {
	case bool:
		return []any{!x}
	case string:
		return []any{"", "a", x + "Z_9", "on", "On", "true", "null", "query", "1", "1a", "a b", "a:b", "a-", "$a", "é", "\xff", "a\x00", "1.5", "-0", "9223372036854775808", `"`}
	case int64:
		return []any{int64(0), int64(1), int64(2), int64(-1), int64(1) << 62}
	case int:
		return []any{-1, 0, 1, 2, 3, 4, 5, 6, 7, 8, 9, 15, 16, 31, 32, 1 << 40, -1 << 63}
	case api.Value:
		return []any{api.Value{}, number(1), said(api.Var, "v"), said(api.Enum, "E"), said(api.Enum, "false"), list(said(api.Var, "v")), mapped(member("a", list(said(api.Var, "v")))), mapped(member("a b", number(1))), mapped(member("a", x)), list(x), nested(12, x), nested(14, x), nested(15, x), nested(16, x), nested(17, x)}
	case api.Type:
		return []any{api.Type{}, api.Type{Name: "T"}, api.Type{Name: "T", Lists: 4, Musts: 31}, api.Type{Name: "T", Lists: 4, Musts: 32}, api.Type{Name: "T", Lists: 5}}
	case api.Sel:
		return []any{api.Sel{}, spread("F"), inline("", x), inline("T"), inline("on", x, x), field("f", x), field("f", deepSels(12, x)), field("f", deepSels(13, x)), field("f", deepSels(14, x)), field("f", deepSels(15, x))}
	}
	if v.Kind() != reflect.Slice {
		return nil
	}
	n := v.Len()
	none := reflect.MakeSlice(v.Type(), 0, 2)
	zero := reflect.Append(v.Slice3(0, n, n), reflect.Zero(v.Type().Elem()))
	out := []any{none.Interface(), zero.Interface(), reflect.AppendSlice(v.Slice3(0, n, n), v).Interface()}
	if n > 0 {
		out = append(out, v.Slice(1, n).Interface(), v.Slice(0, n-1).Interface())
	}
	return out
}

// P7.1 to P7.3: samples with each of their parts replaced.
func TestChangedSamples(t *testing.T) {
	right, wrong := 0, 0
	for _, s := range samples() {
		d := read(t, s)
		holds(t, d)
		for _, part := range parts(reflect.ValueOf(&d).Elem()) {
			was := reflect.New(part.Type()).Elem()
			was.Set(part)
			for _, x := range instead(was) {
				part.Set(reflect.ValueOf(x))
				holds(t, d)
				if readable(d) {
					right++
				} else {
					wrong++
				}
			}
			part.Set(was)
		}
	}
	if right < 1500 || wrong < 3000 {
		t.Errorf("%d of the changed samples are Right, %d are not", right, wrong)
	}
}

// What follows are choices for a part of a selection or of a definition.

func argsChoices() [][]api.Member {
	return [][]api.Member{nil, {}, {member("x", number(1))}, {member("x", said(api.Var, "v")), member("x", list())}, {member("x", said(api.Enum, "null"))}, {member("", number(1))}}
}

func dirsChoices() [][]api.Dir {
	return [][]api.Dir{{}, {dir("d"), dir("on", member("y", said(api.Text, "q")))}, {dir("d", member("y", said(api.Var, "v")))}, {dir("1")}, {dir("d"), dir("e", member("a b", number(1)))}}
}

func selsChoices() [][]api.Sel {
	return [][]api.Sel{nil, {}, {field("b")}, {field("b", field("c")), spread("F")}, {spread("on")}, {field("b"), inline("T")}}
}

// P7.1 and P7.2: every selection of some choices for each of its parts.
func TestEverySelection(t *testing.T) {
	for kind := -1; kind < 4; kind++ {
		for _, alias := range []string{"", "a", "1"} {
			for _, name := range []string{"", "b", "on", "b c"} {
				for _, on := range []string{"", "T", "on", "-"} {
					for _, args := range argsChoices() {
						for _, dirs := range dirsChoices()[:4] {
							for _, sels := range selsChoices() {
								holdsSels(t, []api.Sel{{Kind: kind, Alias: alias, Name: name, Args: args, Dirs: dirs, On: on, Sels: sels}})
							}
						}
					}
				}
			}
		}
	}
}

// P7.1 and P7.2: every operation and every fragment of some choices for each part.
func TestEveryDefinition(t *testing.T) {
	vars := [][]api.VarDef{nil, {}, {{Name: "x", T: api.Type{Name: "T", Lists: 1, Musts: 2}}}, {{Name: "x", T: api.Type{Name: "T"}, Has: true}, {Name: "x", T: api.Type{Name: "U"}}}, {{Name: "x"}}, {{Name: "x", T: api.Type{Name: "T"}, Default: number(1)}}}
	for _, name := range []string{"", "Q", "on", "query", "1", "a b"} {
		for _, dirs := range dirsChoices() {
			for _, sels := range selsChoices() {
				for kind := -1; kind < 4; kind++ {
					for _, l := range vars {
						holds(t, api.Doc{Ops: []api.Op{{Kind: kind, Name: name, Vars: l, Dirs: dirs, Sels: sels}}})
					}
				}
				for _, on := range []string{"", "T", "on", "fragment", "1", "[T]"} {
					f := api.Frag{Name: name, On: on, Dirs: dirs, Sels: sels}
					holds(t, api.Doc{Frags: []api.Frag{f}})
					holds(t, api.Doc{Ops: []api.Op{{Sels: []api.Sel{field("a")}}}, Frags: []api.Frag{{Name: "G", On: "T", Sels: []api.Sel{field("a")}}, f}})
				}
			}
		}
	}
}

// P7.1 and P7.2: every variable of some choices for each part.
func TestEveryVariable(t *testing.T) {
	a := []api.Sel{field("a")}
	values := []api.Value{{}, {L: []api.Value{}, M: []api.Member{}}, {N: 1}, {S: "a"}, {L: []api.Value{{}}}, {M: []api.Member{{}}}, {Kind: -1}, {Kind: 9}, number(0), said(api.Text, ""), list(), mapped(), list(mapped(member("a", said(api.Enum, "E")))), said(api.Var, "x"), list(number(1), said(api.Var, "x")), mapped(member("a", list(said(api.Var, "x")))), said(api.Enum, "true"), said(api.Num, "1"), mapped(member("", number(1)))}
	for _, name := range []string{"", "x", "on", "null", "1", "x y", "$x"} {
		for _, has := range []bool{false, true} {
			for _, v := range values {
				for _, x := range []api.Type{{}, {Name: "T"}, {Name: "on", Lists: 2, Musts: 5}} {
					holds(t, api.Doc{Ops: []api.Op{{Vars: []api.VarDef{{Name: name, T: x, Has: has, Default: v}}, Sels: a}}})
				}
			}
		}
	}
	for lists := -2; lists < 8; lists++ {
		for musts := -3; musts < 70; musts++ {
			for _, name := range []string{"", "T", "null", "1", "T!", "[T]"} {
				v := api.VarDef{Name: "x", T: api.Type{Name: name, Lists: lists, Musts: musts}}
				holds(t, api.Doc{Ops: []api.Op{{Vars: []api.VarDef{v}, Sels: a}}})
			}
		}
	}
}
