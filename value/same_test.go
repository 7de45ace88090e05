package value

import (
	"fmt"
	"reflect"
	"slices"
	"strings"
	"testing"

	"seine/api"
	"seine/every"
)

// copied is v in memory of its own. Lists without elements become none, or, with
// full, lists of their own that have no elements.
func copied(v api.Value, full bool) api.Value {
	out := api.Value{Kind: v.Kind, N: v.N, S: strings.Clone(v.S)}
	if full {
		out.L, out.M = []api.Value{}, make([]api.Member, 0, 2)
	}
	for _, x := range v.L {
		out.L = append(out.L, copied(x, full))
	}
	for _, m := range v.M {
		out.M = append(out.M, member(strings.Clone(m.Name), copied(m.V, full)))
	}
	return out
}

// sameOf says what Same must answer, by the library's comparison.
func sameOf(a, b api.Value) bool { return reflect.DeepEqual(copied(a, false), copied(b, false)) }

// many are values that differ, of all Kinds, Good and not.
func many() []api.Value {
	a, b, c := Int(1), Int(2), single(api.Var, "a")
	out := append(plains(), bads()...)
	for l := range every.List(3, a, b, c, list(a), list(list(a), b), mapped(member("a", a))) {
		out = append(out, list(slices.Clone(l)...))
	}
	members := []api.Member{member("a", a), member("a", b), member("b", a), member("", a), member("\xff", c), member("a", list(a, b)), member("a", list(b, a))}
	for l := range every.List(2, members...) {
		out = append(out, mapped(slices.Clone(l)...))
	}
	for n := range 20 {
		out = append(out, deep(Int(7), n, frames()...), deep(Int(8), n, frames()...))
	}
	return out
}

// P5.2 and P5.4: Same over all pairs, both ways round, whatever stands in the values.
func TestSame(t *testing.T) {
	all := many()
	texts := make([]string, len(all))
	for k, v := range all {
		texts[k] = fmt.Sprintf("%#v", copied(v, false))
	}
	equal := 0
	for i, a := range all {
		full := copied(a, true)
		for j, b := range all {
			want := texts[i] == texts[j]
			if got, back := Same(full, b), Same(b, full); got != want || back != want {
				t.Errorf("Same(%+v, %+v) = %v, %v the other way", a, b, got, back)
			}
			if want {
				equal++
			}
		}
	}
	if equal < len(all) || equal > len(all)*len(all)/100 {
		t.Errorf("%d pairs of %d values are equal", equal, len(all))
	}
}

// P5.2: a copy is the same, and one with a single difference is not, however deep it stands.
func TestSameDeep(t *testing.T) {
	for _, a := range plains() {
		for _, b := range []api.Value{a, {}, Int(3), list(a), {Kind: a.Kind + 1, N: a.N, S: a.S}, {Kind: a.Kind, N: a.N + 1, S: a.S}, {Kind: a.Kind, N: a.N, S: a.S + "a"}} {
			for l := range every.List(2, frames()...) {
				x, y := framed(copied(a, true), l...), framed(b, l...)
				if got, want := Same(x, y), sameOf(a, b); got != want || Same(y, x) != want {
					t.Errorf("Same(%+v, %+v) = %v", x, y, got)
				}
			}
		}
	}
	if x := deep(Int(1), 4096, frames()...); !Same(x, copied(x, true)) || Same(x, deep(Int(2), 4096, frames()...)) {
		t.Error("Same of very deep values")
	}
}

// P5.2: order counts, of elements and of members; a nil list and an empty one are the same.
func TestSameNamed(t *testing.T) {
	a, b := member("a", Int(1)), member("b", Int(2))
	hidden := func(v api.Value) api.Value {
		v.L = []api.Value{Int(5)}
		return v
	}
	for _, x := range []struct {
		a, b api.Value
		want bool
	}{
		{list(), api.Value{Kind: api.List, L: []api.Value{}}, true},
		{mapped(), api.Value{Kind: api.Map, M: []api.Member{}, L: []api.Value{}}, true},
		{Int(1), api.Value{Kind: api.Int, N: 1, L: []api.Value{}, M: []api.Member{}}, true},
		{list(), mapped(), false},
		{list(list()), list(mapped()), false},
		{api.Value{}, list(), false},
		{list(), list(api.Value{}), false},
		{list(Int(1), Int(2)), list(Int(2), Int(1)), false},
		{list(Int(1)), list(Int(1), Int(1)), false},
		{mapped(a, b), mapped(a, b), true},
		{mapped(a, b), mapped(b, a), false},
		{mapped(a), mapped(a, a), false},
		{mapped(member("a", Int(2))), mapped(member("b", Int(2))), false},
		{Int(1), truthOf(1), false},
		{single(api.Num, "1.0"), single(api.Num, "1.00"), false},
		{single(api.Enum, "a"), single(api.Var, "a"), false},
		{Text("a"), single(api.Enum, "a"), false},
		{hidden(Int(1)), Int(1), false},
		{hidden(Int(1)), hidden(Int(1)), true},
		{api.Value{Kind: 77}, api.Value{Kind: 77}, true},
		{api.Value{Kind: 77}, api.Value{Kind: 78}, false},
		{api.Value{Kind: api.Text, N: 1}, Text(""), false},
	} {
		if got := Same(x.a, x.b); got != x.want || Same(x.b, x.a) != x.want {
			t.Errorf("Same(%+v, %+v) = %v", x.a, x.b, got)
		}
	}
}

// P5.2: Get returns the value of the first member of the name; names are whatever they are.
func TestGet(t *testing.T) {
	names := []string{"a", "b", "A", "", "é", "\xff", "a "}
	var members []api.Member
	for _, name := range names {
		members = append(members, member(name, api.Value{}))
	}
	for l := range every.List(4, members...) {
		l = slices.Clone(l)
		for k := range l {
			l[k].V = Int(int64(k))
		}
		for _, name := range append(names, "c", "aa") {
			first := slices.IndexFunc(l, func(m api.Member) bool { return m.Name == name })
			want, is := api.Value{}, first >= 0
			if is {
				want = Int(int64(first))
			}
			if got, ok := Get(name, l...); !reflect.DeepEqual(got, want) || ok != is {
				t.Fatalf("Get(%q, %+v) = %+v, %v", name, l, got, ok)
			}
		}
	}
}

// P5.2: Get returns values of any kind, also the Null that is there; without members there is none.
func TestGetValues(t *testing.T) {
	for _, v := range append(plains(), list(Int(1), list()), mapped(member("a", Int(1))), single(77, "a"), truthOf(2)) {
		if got, ok := Get("x", member("a", Int(1)), member("x", v), member("x", Int(9))); !reflect.DeepEqual(got, v) || !ok {
			t.Errorf("Get = %+v, %v, want %+v", got, ok, v)
		}
	}
	inner := member("a", mapped(member("b", Int(1))))
	for _, l := range [][]api.Member{nil, {}, {inner}, {inner, inner}} {
		if got, ok := Get("b", l...); !reflect.DeepEqual(got, api.Value{}) || ok {
			t.Errorf("Get of none = %+v, %v", got, ok)
		}
	}
}

// P5.2: Vars in order and each once, of values that are written out.
func TestVars(t *testing.T) {
	a, b, c := single(api.Var, "a"), single(api.Var, "b"), single(api.Var, "c")
	full := func(kind int) api.Value {
		return api.Value{Kind: kind, N: 3, S: "s", L: []api.Value{a, b}, M: []api.Member{member("x", c), member("y", a)}}
	}
	for _, x := range []struct {
		v    api.Value
		want string
	}{
		{api.Value{}, ""},
		{Text("a"), ""},
		{single(api.Enum, "a"), ""},
		{a, "a."},
		{single(api.Var, ""), "."},
		{single(api.Var, "\xff 1"), "\xff 1."},
		{list(), ""},
		{mapped(), ""},
		{list(b, a, b), "b.a."},
		{list(a, a, a), "a."},
		{list(single(api.Var, ""), a, single(api.Var, "")), ".a."},
		{list(a, mapped(member("x", b), member("y", list(a))), Text("c")), "a.b."},
		{mapped(member("c", b), member("b", a), member("b", c), member("a", b)), "b.a.c."},
		{list(list(c, list(b)), a, b), "c.b.a."},
		{list(list(list(a)), b, list(c)), "a.b.c."},
		{list(mapped(member("x", list(b, a))), c, a), "b.a.c."},
		{full(api.Null), ""}, {full(api.Bool), ""}, {full(api.Int), ""}, {full(api.Num), ""}, {full(api.Text), ""}, {full(api.Enum), ""},
		{full(api.List), "a.b."}, {full(api.Map), "c.a."}, {full(api.Var), "s."}, {full(9), ""}, {full(-1), ""},
		{list(full(api.Text), full(api.Var), full(api.Map), full(77), full(api.List)), "s.c.a.b."},
		{deep(list(b, a), 4000, frames()[0], frames()[4]), "b.a."},
	} {
		got := ""
		for _, name := range Vars(x.v) {
			got += name + "."
		}
		if got != x.want {
			t.Errorf("Vars(%.200s) = %q, want %q", fmt.Sprintf("%+v", x.v), got, x.want)
		}
	}
}

// P5.2: Vars of every short list: the order in which they first occur.
func TestVarsOfEveryList(t *testing.T) {
	pieces := []api.Value{single(api.Var, "a"), single(api.Var, "b"), single(api.Var, "A"), Text("a"), list(single(api.Var, "b"), single(api.Var, "c")), mapped(member("a", single(api.Var, "d")))}
	say := []string{"a", "b", "A", "", "bc", "d"}
	for l := range every.List(5, 0, 1, 2, 3, 4, 5) {
		var v []api.Value
		var want []string
		for _, k := range l {
			v = append(v, pieces[k])
			for _, name := range strings.Split(say[k], "") {
				if !slices.Contains(want, name) {
					want = append(want, name)
				}
			}
		}
		if got := Vars(list(v...)); !slices.Equal(got, want) {
			t.Fatalf("Vars of %v = %v, want %v", l, got, want)
		}
	}
}

// P5.2: many Vars are told in time, the same one again and again or each of its own name.
func TestVarsOfMany(t *testing.T) {
	const n = 200000
	var own, again []api.Value
	for k := range n {
		own = append(own, single(api.Var, fmt.Sprint("v", k)))
		again = append(again, single(api.Var, "v"))
	}
	if got := Vars(list(list(own...), list(again...), list(own...))); len(got) != n+1 || got[0] != "v0" || got[n] != "v" {
		t.Errorf("%d names", len(got))
	}
}
