package literal_test

import (
	"fmt"
	"strings"
	"testing"

	"seine/api"
	"seine/literal"
)

// nest puts v so many times into a Map, as the member with this name.
func nest(v api.Value, name string, times int) api.Value {
	for range times {
		v = mapped(member(name, v))
	}
	return v
}

// P10.1, P10.2: an Input that holds itself, as deep as values may be handed in.
func TestDeep(t *testing.T) {
	s := schema(t, `input K{k:K b:Boolean} input L{l:[[L!]!]}`)
	for _, n := range []int{1, 2, 16, 17, 100, 4000} {
		rightIs(t, s, named("K"), nest(api.Value{}, "k", n), true)
		rightIs(t, s, named("K"), nest(mapped(), "k", n), true)
		rightIs(t, s, named("K"), nest(number(1), "k", n), false)
		rightIs(t, s, named("K"), nest(nest(number(1), "z", 1), "k", n), false)
		rightIs(t, s, typ(t, "[[K]]"), nest(single(api.Enum, "X"), "k", n), false)
		spotsAre(t, s, typ(t, "[[K]]"), true, nest(variable("x"), "k", n), "x K false;")
		spotsAre(t, s, typ(t, "K!"), true, nest(nest(variable("x"), "b", 1), "k", n), "x Boolean false;")
		v := variable("x")
		for range n / 2 {
			v = mapped(member("l", list(variable("a"), list(v, variable("b")), variable("c"))))
		}
		a, b, c := "a [L!]! false;", "b L! false;", "c [L!]! false;"
		want := strings.Repeat(a, n/2) + map[bool]string{true: "x L! false;", false: "x L true;"}[n > 1] + strings.Repeat(b+c, n/2)
		spotsAre(t, s, named("L"), true, v, want)
		rightIs(t, s, named("L"), list(v), false)
	}
	deep := list(number(1))
	for range 4000 {
		deep = list(deep)
	}
	for lists := range 5 {
		rightIs(t, s, api.Type{Name: "Int", Lists: lists}, deep, false)
	}
}

// P10.1, P10.2: long lists, and Maps for an Input with many Params, are told in time.
func TestLarge(t *testing.T) {
	const n = 100000
	s := of(input("I"), input("J", param("a", "I"), must(param("b", "ID"))))
	for k := range 1500 {
		s.Defs[0].Params = append(s.Defs[0].Params, param(fmt.Sprint("p", k), "Int"))
	}
	var numbers, vars, maps, all []api.Value
	for k := range n {
		numbers = append(numbers, number(int64(k)))
		vars = append(vars, variable("v"))
		maps = append(maps, mapped(member("b", variable("w"))))
	}
	for k := range 4000 {
		all = append(all, mapped(member(fmt.Sprint("p", k%1500), number(1))))
	}
	rightIs(t, s, typ(t, "[Int!]"), list(numbers...), true)
	rightIs(t, s, typ(t, "[Int]"), list(append(numbers, number(1<<31))...), false)
	rightIs(t, s, typ(t, "[[Int]]"), list(list(numbers...), list(numbers...), number(1)), false)
	rightIs(t, s, typ(t, "[J!]!"), list(maps...), true)
	rightIs(t, s, typ(t, "[J]"), list(append(maps, mapped())...), false)
	rightIs(t, s, typ(t, "[I]"), list(all...), true)
	for k, want := range map[string]string{"[Z!]": "v Z! false;", "[[Int]!]!": "v [Int]! false;"} {
		spotsAre(t, s, typ(t, k), true, list(vars...), strings.Repeat(want, n))
	}
	spotsAre(t, s, typ(t, "[J]"), true, list(maps...), strings.Repeat("w ID! false;", n))
	whole := mapped()
	for k := range 1500 {
		whole.M = append(whole.M, member(fmt.Sprint("p", 1499-k), number(int64(k))))
	}
	rightIs(t, s, typ(t, "I!"), whole, true)
	whole.M = append(whole.M, member("p0", number(1)))
	rightIs(t, s, typ(t, "I!"), whole, false)
	if got := literal.Spots(s, typ(t, "[[I]]"), true, list(list(all...), list(mapped(member("p7", variable("x")))))); spotsText(got) != "x Int false;" {
		t.Errorf("%d Spots", len(got))
	}
}

// items are n elements, of which the one at this place is v, and the others are rest.
func items(n, at int, v, rest api.Value) api.Value {
	out := list()
	for range n {
		out.L = append(out.L, rest)
	}
	out.L[at] = v
	return out
}

// P10.1, P10.2: each of many places counts, whatever stands ahead of it and behind it.
func TestEveryPlace(t *testing.T) {
	const n = 12
	s := of(input("I"))
	for k := range n {
		s.Defs[0].Params = append(s.Defs[0].Params, api.Param{Name: fmt.Sprint("p", k), T: api.Type{Name: "Int", Lists: 1}, Has: true})
	}
	ones := items(n, 0, number(1), number(1))
	for i := range n * n {
		for v, right := range map[string]bool{`"a"`: false, "$x": true} {
			one := items(n, i%n, val(t, v), number(1))
			whole := mapped()
			for k := range n {
				whole.M = append(whole.M, member(fmt.Sprint("p", k), items(n, i/n, one, ones).L[k]))
			}
			for _, x := range []struct {
				t string
				v api.Value
			}{
				{"[[Int]]", items(n, i/n, one, ones)},
				{"[[Int]]", items(n, i/n, one, api.Value{})},
				{"[[[Int]]]", items(n, i/n, list(one, api.Value{}), list(ones))},
				{"[I]", items(n, i/n, mapped(member("p7", one)), mapped(member("p7", ones)))},
				{"[I]", items(n, i/n, mapped(member("p7", one)), api.Value{})},
				{"I", whole},
			} {
				rightIs(t, s, typ(t, x.t), x.v, right)
				if right {
					spotsAre(t, s, typ(t, x.t), true, x.v, "x Int false;")
				}
			}
		}
	}
}
