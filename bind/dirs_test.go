package bind_test

import (
	"math"
	"slices"
	"strings"
	"testing"

	"seine/api"
	"seine/every"
	"seine/value"
)

// A form is a directive as it may be, of a field that is right for it.
type form struct {
	typ  string
	f    api.FieldDef
	dir  api.Dir
	want func(texts map[string]string) api.Bind
}

// forms are all that a directive may be, each argument with a text of its own.
func forms(t *testing.T) []form {
	col := func(x map[string]string) api.Bind { return byCol(x["name"]) }
	link := func(x map[string]string) api.Bind { return byLink(x["table"], x["col"]) }
	get := func(x map[string]string) api.Bind { return byGet(x["table"], x["arg"]) }
	do := func(x map[string]string) api.Bind { return byDo(x["cmd"], x["table"], x["col"]) }
	row := field(t, "a(p:ID):A")
	return []form{
		{"Query", field(t, "a:Int"), dir("col", "name", "n"), col},
		{"Query", row, dir("link", "table", "t", "col", "c"), link},
		{"Query", row, dir("get", "table", "t", "arg", "p"), get},
		{"Do", row, dir("do", "cmd", "put", "table", "t"), do},
		{"Do", row, dir("do", "cmd", "cut", "table", "t"), do},
		{"Do", row, dir("do", "cmd", "burn", "table", "t"), do},
		{"Do", row, dir("do", "cmd", "add", "table", "t", "col", "c"), do},
	}
}

// asked holds the form with these arguments, in each order, against what they say.
func (x form) asked(t *testing.T, s api.Schema, right bool, args ...api.Member) {
	t.Helper()
	for l := range orders(args) {
		f := x.f
		f.Dirs = []api.Dir{{Name: x.dir.Name, Args: l}}
		either(t, s, x.typ, f, right, x.want(said(args)))
	}
}

// said are the texts of the arguments, by their names.
func said(args []api.Member) map[string]string {
	out := map[string]string{}
	for _, a := range args {
		out[a.Name] = a.V.S
	}
	return out
}

// orders yields l in each order.
func orders[T any](l []T) func(yield func([]T) bool) {
	places := make([]int, len(l))
	for k := range places {
		places[k] = k
	}
	return func(yield func([]T) bool) {
		for order := range every.List(len(l), places...) {
			if len(order) < len(l) || len(slices.Compact(slices.Sorted(slices.Values(order)))) < len(l) {
				continue
			}
			var out []T
			for _, k := range order {
				out = append(out, l[k])
			}
			if !yield(out) {
				return
			}
		}
	}
}

// put returns l with x at the place k.
func put(l []api.Member, k int, x api.Member) []api.Member {
	return slices.Concat(l[:k], []api.Member{x}, l[k+1:])
}

// noTexts are values that are no Text.
func noTexts() []api.Value {
	text := value.Text("x")
	out := []api.Value{{}, {Kind: api.Bool}, {Kind: api.Bool, N: 1}, value.Int(0), value.Int(1), {Kind: api.List, L: []api.Value{text}}, {Kind: api.List}, {Kind: api.Map}, {Kind: api.Map, M: []api.Member{{Name: "name", V: text}}}}
	for _, kind := range []int{-1, 0, 1, 2, 3, 5, 6, 7, 8, 9, 260, 1<<32 + 4, math.MaxInt, math.MinInt, -4} {
		for _, s := range []string{"x", "1", "add", "p"} {
			out = append(out, api.Value{Kind: kind, S: s})
		}
	}
	return out
}

// P12.1: all arguments, in each order.
func TestArguments(t *testing.T) {
	s := read(t, world)
	for _, x := range forms(t) {
		x.asked(t, s, true, x.dir.Args...)
	}
}

// P12.1: arguments missing: one, two, or all of them.
func TestArgumentsMissing(t *testing.T) {
	s := read(t, world)
	for _, x := range forms(t) {
		args := x.dir.Args
		x.asked(t, s, false)
		for k := range args {
			x.asked(t, s, false, args[k+1:]...)
			x.asked(t, s, false, args[:k]...)
			x.asked(t, s, false, slices.Delete(slices.Clone(args), k, k+1)...)
		}
	}
}

// P12.1: one argument too many, right texts and others, at each place.
func TestArgumentsTooMany(t *testing.T) {
	s := read(t, world)
	for _, x := range forms(t) {
		own := map[string]bool{}
		for _, a := range x.dir.Args {
			own[a.Name] = true
		}
		for _, name := range append(names("name table col arg cmd x p Name nam names Table type __typename"), "", "\xff", " table") {
			if own[name] {
				continue
			}
			for _, v := range append(noTexts(), value.Text("x"), value.Text(""), value.Text("add"), value.Text("put"), value.Text("p")) {
				x.asked(t, s, false, append(x.dir.Args[:len(x.dir.Args):len(x.dir.Args)], api.Member{Name: name, V: v})...)
			}
		}
	}
}

// P12.1: one argument twice, or thrice, with the same text, with another, with none.
func TestArgumentsTwice(t *testing.T) {
	s := read(t, world)
	for _, x := range forms(t) {
		for k, a := range x.dir.Args {
			for _, v := range []api.Value{a.V, value.Text("x"), value.Text(""), value.Text("put"), {}, value.Int(1)} {
				again := append(x.dir.Args[:len(x.dir.Args):len(x.dir.Args)], api.Member{Name: a.Name, V: v})
				x.asked(t, s, false, again...)
				x.asked(t, s, false, append(again[:len(again):len(again)], a)...)
				for j := range x.dir.Args {
					if j != k {
						x.asked(t, s, false, put(x.dir.Args, j, api.Member{Name: a.Name, V: v})...)
					}
				}
			}
		}
	}
}

// P12.1: one argument is empty, is no Text, or has another name.
func TestArgumentsWrong(t *testing.T) {
	s := read(t, world)
	for _, x := range forms(t) {
		for k, a := range x.dir.Args {
			for _, v := range append(noTexts(), value.Text(""), api.Value{Kind: api.Text, N: 1, L: []api.Value{value.Text("x")}}) {
				x.asked(t, s, false, put(x.dir.Args, k, api.Member{Name: a.Name, V: v})...)
			}
			for _, name := range append(names("x p Name nam namee tables tabl Col cmds arguments key"), "", a.Name+" ", a.Name+"\x00", strings.ToUpper(a.Name)) {
				x.asked(t, s, false, put(x.dir.Args, k, api.Member{Name: name, V: a.V})...)
			}
		}
	}
}

// P12.1, R6, R8: any text that is not empty is one, also what no row could have, and whatever stands beside it in the value.
func TestArgumentsAnyText(t *testing.T) {
	s := read(t, world)
	for _, x := range forms(t) {
		for k, a := range x.dir.Args {
			texts := []string{"x", " ", "\x00", "\xff\xfe", "null", "name", "table", "__typename", "ü😀", "Do", strings.Repeat("x", 1<<16)}
			if a.Name == "cmd" || a.Name == "arg" {
				texts = []string{a.V.S}
			}
			for _, text := range texts {
				for _, v := range []api.Value{value.Text(text), {Kind: api.Text, S: text, N: 7}, {Kind: api.Text, S: text, L: noTexts(), M: args("name", "z")}} {
					x.asked(t, s, true, put(x.dir.Args, k, api.Member{Name: a.Name, V: v})...)
				}
			}
		}
	}
}

// P12.1: arguments of one directive are not those of another.
func TestArgumentsOfOthers(t *testing.T) {
	s := read(t, world)
	for _, x := range forms(t) {
		for _, y := range forms(t) {
			if x.dir.Name != y.dir.Name {
				x.asked(t, s, false, y.dir.Args...)
			}
			all := slices.Concat(x.dir.Args, y.dir.Args)
			x.asked(t, s, false, all...)
		}
	}
}

// P12.1: no two directives tell anything, whether they are equal or not.
func TestTwoDirectives(t *testing.T) {
	s := read(t, world)
	for _, x := range forms(t) {
		others := []api.Dir{x.dir, {Name: "x"}, {}, {Name: x.dir.Name}, dir("deprecated", "reason", "x"), {Name: "col", Args: args("name", "")}}
		for _, y := range forms(t) {
			others = append(others, y.dir)
		}
		for two := range every.List(2, others...) {
			f := x.f
			f.Dirs = append([]api.Dir{x.dir}, two...)
			either(t, s, x.typ, f, len(two) == 0, x.want(said(x.dir.Args)))
			f.Dirs = append(slices.Clone(two), x.dir)
			either(t, s, x.typ, f, len(two) == 0, x.want(said(x.dir.Args)))
		}
	}
}

// P12.1: there are four directives, and no others.
func TestOtherDirectives(t *testing.T) {
	s := read(t, world)
	for _, x := range forms(t) {
		for _, name := range append(names("x Col COL cols co colname link_ Link getter ge DO don include skip deprecated name table cmd arg put add cut burn __typename"), "", "\xff", " col", "do ", "get\x00", "@link") {
			f := x.f
			for _, args := range [][]api.Member{x.dir.Args, nil} {
				f.Dirs = []api.Dir{{Name: name, Args: args}}
				no(t, s, x.typ, f)
				leaf := f
				leaf.T = typ("Int")
				no(t, s, x.typ, leaf)
			}
		}
	}
}
