package literal_test

import (
	"maps"
	"slices"
	"testing"

	"seine/api"
	"seine/every"
	"seine/grammar"
	"seine/literal"
	"seine/value"
	"seine/wrap"
)

// The symbols of the grammar that says how values are written that are right for
// a type x: x itself; `list-x` for the Lists among them; `item-x` and `item-x*`
// for what stands in these. What is neither Var nor Null nor List is written for a
// list as it is for the type's name.

// ways writes down the grammar for all types of the names with at most so many lists.
func ways(s api.Schema, lists int, names ...string) map[string][]string {
	out := map[string][]string{}
	for _, name := range names {
		for n := range lists + 1 {
			for musts := range 2 << n {
				addWays(out, s, api.Type{Name: name, Lists: n, Musts: musts})
			}
		}
	}
	return out
}

func addWays(out map[string][]string, s api.Schema, x api.Type) {
	text, _ := wrap.Print(x)
	open := []string{"$ name"}
	if !wrap.Is(x) {
		open = append(open, "'null")
	}
	out[text] = slices.Concat(open, singles(s, x.Name))
	if x.Lists == 0 {
		return
	}
	item, _ := wrap.Item(x)
	inner, _ := wrap.Print(item)
	out[text] = append(out[text], "list-"+text)
	out["list-"+text] = []string{"'[ item-" + text + "* ']"}
	out["item-"+text+"*"] = []string{"", "item-" + text + " item-" + text + "*"}
	out["item-"+text] = []string{inner}
	if item.Lists > 0 {
		out["item-"+text] = slices.DeleteFunc(slices.Clone(out[inner]), func(way string) bool { return slices.Contains(singles(s, x.Name), way) })
	}
}

// singles are the ways of what is neither Var nor Null nor List. An Int that is
// beyond an Int's bounds is the word `big`, and a Num is the word `num`.
func singles(s api.Schema, name string) []string {
	switch name {
	case "Int":
		return []string{"number"}
	case "String":
		return []string{"quote"}
	case "Boolean":
		return []string{"'true", "'false"}
	case "ID":
		return []string{"quote", "number", "'big"}
	}
	var out []string
	for _, d := range s.Defs {
		if d.Name == name && d.Kind == api.Enums {
			for _, part := range d.Parts {
				out = append(out, "'"+part)
			}
		}
		if d.Name == name && d.Kind == api.Input {
			out = append(out, orders("'{", d.Params)...)
		}
	}
	return out
}

// orders are the ways of a Map that goes on behind begin with any of the Params, each
// at most once.
func orders(begin string, left []api.Param) []string {
	var out []string
	if !slices.ContainsFunc(left, func(p api.Param) bool { return !p.Has && p.T.Musts%2 == 1 }) {
		out = append(out, begin+" '}")
	}
	for k, p := range left {
		text, _ := wrap.Print(p.T)
		out = append(out, orders(begin+" '"+p.Name+" : "+text, slices.Concat(left[:k], left[k+1:]))...)
	}
	return out
}

// written are the tokens of v as the grammar has them.
func written(v api.Value) []api.Token {
	l, _ := value.Tokens(v)
	for k, x := range l {
		if x.Kind == api.Point || len(x.S) > 18 {
			l[k] = api.Token{Kind: api.Word, S: "num"}
		} else if x.Kind == api.Digits && len(x.S) > 9 {
			l[k] = api.Token{Kind: api.Word, S: "big"}
		}
	}
	return l
}

// smalls are values of each Kind, with nothing in them.
func smalls() []api.Value {
	return []api.Value{{}, variable("v"), {Kind: api.Bool}, number(-7), number(1 << 31), single(api.Num, "1.5"), single(api.Num, "99999999999999999999"), single(api.Text, "X"), single(api.Enum, "X"), single(api.Enum, "on"), list(), mapped()}
}

// lists are Lists of up to two small values, and Lists of up to two of some of these.
func lists() []api.Value {
	var out, next []api.Value
	for l := range every.List(2, smalls()...) {
		out = append(out, list(slices.Clone(l)...))
	}
	in := []api.Value{{}, variable("v"), number(1), single(api.Enum, "X"), list(), list(number(1)), list(api.Value{}), list(variable("v"), number(1)), list(single(api.Text, "X")), list(list(number(2)))}
	for l := range every.List(2, in...) {
		next = append(next, list(slices.Clone(l)...))
	}
	for _, v := range next {
		out = append(out, v, list(v), list(variable("v"), v), list(list(), v))
	}
	return out
}

// objects are Maps of up to two members, and Maps and Lists of some of these.
func objects() []api.Value {
	var members []api.Member
	one := mapped(member("a", number(1)))
	in := []api.Value{{}, variable("v"), number(1), single(api.Text, "X"), single(api.Enum, "X"), list(), list(api.Value{}), mapped(), one, list(one, mapped(member("a", number(1)), member("b", list())))}
	for _, name := range []string{"a", "b", "c", "z"} {
		for _, v := range in {
			members = append(members, member(name, v))
		}
	}
	var out []api.Value
	for l := range every.List(2, members...) {
		out = append(out, mapped(slices.Clone(l)...))
	}
	for _, v := range slices.Clone(out) {
		if len(v.M) > 1 && v.M[0].V.Kind == api.Int {
			out = append(out, list(v), list(list(variable("v"), v)), mapped(member("c", v), member("a", number(3))), mapped(member("b", number(1)), member("a", number(2)), member("c", list(v))))
		}
	}
	return out
}

const judged = `
	type Query{a:Int}
	enum E{X on}
	input I{a:Int! b:[Int!]=[1] c:I}
	input J{a:ID b:[[J]!] c:[I!]! d:E!=X}`

// A text is a value with its tokens.
type text struct {
	v api.Value
	l []api.Token
}

func texts(l []api.Value) []text {
	var out []text
	for _, v := range l {
		out = append(out, text{v, written(v)})
	}
	return out
}

// P10.1: of many values for every type with up to two lists, of a name or of another list, just those are right that a grammar accepts.
func TestJudged(t *testing.T) {
	s := schema(t, judged)
	types := ways(s, 2, append(scalarNames(), "E", "I", "J", "Query", "Z")...)
	maps.Copy(types, ways(s, 3, "Int"))
	rules := grammar.New(types)
	some, more := texts(slices.Concat(smalls(), lists())), texts(objects())
	rights, wrongs := 0, 0
	for symbol := range types {
		x, is := wrap.Read(symbol)
		if !is {
			continue
		}
		all := some
		if (x.Name == "I" || x.Name == "J") && (x.Lists < 2 || x.Musts == 0) || symbol == "Int" {
			all = slices.Concat(some, more)
		}
		for _, y := range all {
			want := rules.Judge(symbol, y.l) == api.OK
			if want {
				rights++
			} else {
				wrongs++
			}
			rightIs(t, s, x, y.v, want)
		}
		if t.Failed() {
			return
		}
	}
	if rights < 5000 || wrongs < 5000 {
		t.Errorf("only %d values are right, and %d are not", rights, wrongs)
	}
}

// P10.3: what is right for a type is right for it without any `!`; what is neither List nor Var nor Null is right for a list just if it is right for its item.
func TestConsequence(t *testing.T) {
	s := schema(t, judged)
	for _, name := range append(scalarNames(), "E", "I", "J", "Query", "Z") {
		for n := range 4 {
			for musts := range 2 << n {
				x := api.Type{Name: name, Lists: n, Musts: musts}
				for _, v := range slices.Concat(smalls(), lists()) {
					consequence(t, s, x, v)
				}
				if t.Failed() {
					return
				}
			}
		}
	}
	for _, v := range objects() {
		consequence(t, s, typ(t, "I!"), v)
		consequence(t, s, typ(t, "[J!]!"), v)
	}
}

func consequence(t *testing.T, s api.Schema, x api.Type, v api.Value) {
	right := literal.Right(s, x, v)
	for bit := range x.Lists + 1 {
		less := x
		less.Musts &^= 1 << bit
		if right && !literal.Right(s, less, v) {
			t.Errorf("%s is right for %s, but not for %s", show(v), show(x), show(less))
		}
	}
	if right && !literal.Right(s, wrap.Bare(x), v) {
		t.Errorf("%s is right for %s, but not when it is bare", show(v), show(x))
	}
	of, _ := wrap.List(x)
	if v.Kind == api.List || v.Kind == api.Var || v.Kind == api.Null {
		return
	}
	for _, y := range []api.Type{of, wrap.Must(of)} {
		if literal.Right(s, y, v) != right {
			t.Errorf("%s is right for one of %s and %s", show(v), show(x), show(y))
		}
	}
}
