package defs_test

import (
	"math"
	"testing"

	"seine/api"
	"seine/defs"
)

// subIs holds Sub against what is wanted.
func subIs(t *testing.T, s api.Schema, a, b api.Type, want bool) {
	t.Helper()
	if got := defs.Sub(s, a, b); got != want {
		t.Errorf("Sub(%v, %v) = %v", a, b, got)
	}
}

// namedPairs are the types of plain that are accepted for another one.
const namedPairs = " A-Node B-Node B-Big Big-Node A-U B-U C-U C-V Query-W "

// P9.3: each name for each other, alone, with all lists and with all `!`s.
func TestSub(t *testing.T) {
	s := schema(t, plain)
	all := names("Query A B C Node Big Lone U V W E I Int String Boolean ID Z z")
	for _, a := range all {
		for _, b := range all {
			want := a == b || containsPair(namedPairs, a, b)
			for lists := range 5 {
				subIs(t, s, typ(a, lists, 0), typ(b, lists, 0), want)
				subIs(t, s, typ(a, lists, 2<<lists-1), typ(b, lists, 0), want)
				subIs(t, s, typ(a, lists, 0), typ(b, lists, 1<<lists), false)
				subIs(t, s, typ(a, lists, 1), typ(b, lists, 1), want)
			}
		}
	}
}

// P9.3: lists and `!`s, of names that are equal, accepted and not.
func TestSubLists(t *testing.T) {
	s := schema(t, plain)
	for _, pair := range []struct {
		a, b string
		is   bool
	}{{"Int", "Int", true}, {"A", "Node", true}, {"Big", "Node", true}, {"C", "U", true}, {"Z", "Z", true}, {"Node", "A", false}, {"U", "V", false}, {"Int", "ID", false}} {
		for i := range 5 {
			for j := range 5 {
				for m := range 2 << i {
					for n := range 2 << j {
						want := pair.is && i == j && m|n == m
						subIs(t, s, typ(pair.a, i, m), typ(pair.b, j, n), want)
					}
				}
			}
		}
	}
}

// P9.3: a type that may not be is accepted for none, and accepts none, itself included.
func TestSubWrong(t *testing.T) {
	odd := []string{"", " ", "1", "a b", "A!", "[A]", "é", "\xff", "A\x00"}
	s := schema(t, plain)
	for _, name := range odd {
		s.Defs = append(s.Defs, object(name, append(odd, "Node")), face(name, append(odd, "Node")))
	}
	s.Defs = append(s.Defs, union("Odd", odd...))
	var wrong []api.Type
	for _, name := range odd {
		wrong = append(wrong, typ(name, 0, 0), typ(name, 0, 1), typ(name, 2, 7))
	}
	for _, lists := range []int{-1, -64, 5, 6, 31, 32, 63, 64, math.MaxInt, math.MinInt} {
		wrong = append(wrong, typ("A", lists, 0), typ("A", lists, 1))
	}
	for lists := range 5 {
		wrong = append(wrong, typ("A", lists, -1), typ("A", lists, 2<<lists), typ("A", lists, 4<<lists-1), typ("A", lists, math.MaxInt), typ("A", lists, math.MinInt))
	}
	for _, x := range wrong {
		subIs(t, s, x, x, false)
		for _, name := range names("A Node U Odd Int Z") {
			for lists := range 5 {
				subIs(t, s, x, typ(name, lists, 0), false)
				subIs(t, s, typ(name, lists, 2<<lists-1), x, false)
			}
			subIs(t, s, x, typ(name, x.Lists, x.Musts), false)
			subIs(t, s, typ(name, x.Lists, x.Musts), x, false)
		}
	}
}

// P9.3: an Object and a Face are those that Find returns, and of a Face's Faces the first Def's count.
func TestSubOdd(t *testing.T) {
	for _, x := range []struct {
		a, b string
		want bool
		l    []api.Def
	}{
		{"A", "A", true, nil},
		{"A", "B", false, nil},
		{"F", "G", true, []api.Def{face("F", names("H G")), face("G", nil)}},
		{"F", "G", false, []api.Def{face("F", names("H")), face("G", names("F")), face("H", names("G"))}},
		{"G", "F", true, []api.Def{face("F", names("H")), face("G", names("F")), face("H", names("G"))}},
		{"F", "G", false, []api.Def{face("F", names("G"))}},
		{"F", "G", false, []api.Def{face("F", names("G")), union("G", "F")}},
		{"F", "G", false, []api.Def{face("F", names("G")), object("G", nil), face("G", nil)}},
		{"F", "G", false, []api.Def{face("F", nil), face("F", names("G")), face("G", nil)}},
		{"F", "G", true, []api.Def{face("F", names("G")), face("F", nil), face("G", nil), enum("G")}},
		{"F", "G", false, []api.Def{full(api.Input, "F"), face("F", names("G")), face("G", nil)}},
		{"K", "N", false, []api.Def{full(api.Union, "K"), face("N", nil)}},
		{"K", "N", false, []api.Def{full(api.Enums, "K"), face("N", nil)}},
		{"K", "N", false, []api.Def{full(9, "K"), face("N", nil)}},
		{"K", "N", true, []api.Def{full(api.Face, "K"), face("N", nil)}},
		{"K", "N", true, []api.Def{full(api.Object, "K"), face("N", nil)}},
		{"K", "N", false, []api.Def{full(api.Object, "K"), union("N", "A")}},
		{"K", "N", false, []api.Def{full(api.Object, "K"), full(9, "N")}},
		{"A", "N", true, []api.Def{object("A", nil), object("A", names("N")), face("N", nil)}},
		{"A", "N", false, []api.Def{enum("A"), object("A", names("N")), face("N", nil)}},
		{"A", "N", true, []api.Def{face("A", names("N")), object("A", nil), face("N", nil)}},
		{"Int", "N", false, []api.Def{object("Int", names("N")), face("N", nil)}},
		{"A", "U", false, []api.Def{enum("A"), object("A", nil), union("U", "A")}},
		{"A", "U", true, []api.Def{object("A", nil), enum("A"), union("U", "B", "A", "A")}},
		{"A", "U", false, []api.Def{object("A", nil), union("U", "B"), union("U", "A")}},
		{"F", "U", false, []api.Def{face("F", nil), union("U", "F"), object("A", names("F"))}},
		{"U", "V", false, []api.Def{object("A", nil), union("U", "A"), union("V", "A", "U")}},
		{"U", "A", false, []api.Def{object("A", nil), union("U", "A")}},
	} {
		subIs(t, of(x.l...), typ(x.a, 0, 0), typ(x.b, 0, 0), x.want)
		subIs(t, of(x.l...), typ(x.a, 1, 3), typ(x.b, 1, 2), x.want)
		subIs(t, of(x.l...), typ(x.a, 0, 0), typ(x.b, 0, 1), false)
	}
}
