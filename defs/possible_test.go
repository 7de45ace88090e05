package defs_test

import (
	"math"
	"slices"
	"testing"

	"seine/api"
	"seine/defs"
)

// possibleIs holds what Possible tells of a name against names with blanks between.
func possibleIs(t *testing.T, s api.Schema, name, want string) {
	t.Helper()
	if got := defs.Possible(s, name); !slices.Equal(got, names(want)) {
		t.Errorf("Possible(%q) = %q, want %q", name, got, want)
	}
}

// meets holds Meets, both ways round, against what is wanted.
func meets(t *testing.T, s api.Schema, a, b string, want bool) {
	t.Helper()
	if got, back := defs.Meets(s, a, b), defs.Meets(s, b, a); got != want || back != want {
		t.Errorf("Meets(%q, %q) = %v, %v the other way, want %v", a, b, got, back, want)
	}
}

// P9.3: the possible types of each kind, in a schema as one is written.
func TestPossible(t *testing.T) {
	s := schema(t, plain)
	for name, want := range map[string]string{
		"Query": "Query", "A": "A", "B": "B", "C": "C", "Node": "A B", "Big": "B", "Lone": "", "U": "B C A", "V": "C", "W": "Query",
		"E": "", "I": "", "Int": "", "String": "", "Boolean": "", "ID": "", "": "", "Z": "", "X": "", "node": "", "Mutation": "",
	} {
		possibleIs(t, s, name, want)
	}
	possibleIs(t, api.Schema{}, "A", "")
	possibleIs(t, of(), "", "")
}

// P9.3: the Parts of a Union that Find returns an Object for, each once, where it stands first.
func TestPossibleOfUnions(t *testing.T) {
	l := []api.Def{object("A", nil), object("B", nil), face("F", nil), object("O", names("F")), union("V", "A"), enum("E", "A"), full(api.Input, "I"), full(7, "K"), {Name: "S"}, object("Int", nil), enum("D", "X"), object("D", nil), object("H", nil), enum("H", "X")}
	for _, x := range []struct{ parts, want string }{
		{"", ""}, {"A", "A"}, {"A B A", "A B"}, {"B A", "B A"}, {"B A A B B A", "B A"}, {"A A A", "A"},
		{"Z A Z", "A"}, {"Z", ""}, {"F", ""}, {"V", ""}, {"U", ""}, {"F O", "O"}, {"E I K S A", "A"}, {"Int String ID A", "A"}, {"D", ""}, {"H D", "H"}, {"a A", "A"},
	} {
		possibleIs(t, of(append(l, union("U", names(x.parts)...))...), "U", x.want)
		possibleIs(t, of(append([]api.Def{union("U", names(x.parts)...), union("U", "B", "A")}, l...)...), "U", x.want)
	}
	nameless := of(union("U", "", "A", ""), object("A", nil), object("", nil))
	if got := defs.Possible(nameless, "U"); !slices.Equal(got, []string{"", "A"}) {
		t.Errorf("Possible of a Union with an empty name = %q", got)
	}
	if got := defs.Possible(nameless, ""); !slices.Equal(got, []string{""}) {
		t.Errorf("Possible of an Object with an empty name = %q", got)
	}
}

// P9.3: the Objects that have a Face among their own, each once, in the order of the Defs, whatever else is called as they are.
func TestPossibleOfFaces(t *testing.T) {
	f := face("F", nil)
	for _, x := range []struct {
		want string
		l    []api.Def
	}{
		{"", []api.Def{f}},
		{"B A", []api.Def{object("B", names("F")), f, object("A", names("F"))}},
		{"B A", []api.Def{f, object("B", names("G F")), object("A", names("F F")), object("B", names("F"))}},
		{"A", []api.Def{f, object("A", nil), object("B", names("G f FF")), object("A", names("F"))}},
		{"A", []api.Def{f, object("A", names("F")), object("A", nil), object("A", names("F"))}},
		{"A", []api.Def{f, face("G", names("F")), object("A", names("F G")), object("B", names("G"))}},
		{"", []api.Def{face("F", names("F G")), face("G", names("F")), object("A", names("G"))}},
		{"A", []api.Def{f, enum("A", "X"), object("A", names("F"))}},
		{"Int", []api.Def{f, object("Int", names("F"))}},
		{"F", []api.Def{f, object("F", names("F"))}},
		{"F", []api.Def{object("F", nil), f, object("A", names("F"))}},
		{"A", []api.Def{f, union("F", "B"), object("B", nil), object("A", names("F"))}},
		{"", []api.Def{enum("F", "A"), f, object("A", names("F"))}},
	} {
		possibleIs(t, of(x.l...), "F", x.want)
	}
	s := of(object("A", []string{"F", ""}), face("", nil), object("", []string{""}))
	if got := defs.Possible(s, ""); !slices.Equal(got, []string{"A", ""}) {
		t.Errorf("Possible of the empty name = %q", got)
	}
}

// P9.3: what has the Faces and the Parts of any kind is possible by its own kind alone.
func TestPossibleOfKinds(t *testing.T) {
	for _, kind := range []int{-1, 0, 1, 2, 3, 4, 5, 6, 7, 257, 258, 259, 1<<32 + 1, math.MaxInt, math.MinInt} {
		want := map[int]string{api.Object: "K", api.Face: "O", api.Union: "A"}[kind]
		s := of(object("A", nil), full(kind, "K"), object("O", names("K")), full(kind, "K"))
		possibleIs(t, s, "K", want)
		among := map[bool]string{true: "K Q", false: "Q"}[kind == api.Object]
		possibleIs(t, of(face("N", nil), full(kind, "K"), object("Q", names("N"))), "N", among)
		possibleIs(t, of(full(kind, "K"), object("Q", nil), union("U", "K", "Q")), "U", among)
	}
	for _, name := range scalarNames() {
		for kind := range 6 {
			possibleIs(t, of(full(kind, name), object("A", names(name)), object("B", nil)), name, "")
		}
	}
}

// P9.3: which types meet; P9.4: whichever is named first, and each one itself if it is possible at all.
func TestMeets(t *testing.T) {
	s := schema(t, plain)
	all := names("Query A B C Node Big Lone U V W E I Int String Boolean ID Z")
	pairs := " Query-Query Query-W A-A A-Node A-U B-B B-Node B-Big B-U C-C C-U C-V Node-Node Node-Big Node-U Big-Big Big-U U-U U-V V-V W-W "
	for i, a := range all {
		for _, b := range all[i:] {
			meets(t, s, a, b, containsPair(pairs, a, b))
		}
		meets(t, s, a, "", false)
		meets(t, s, a, "a", false)
	}
	meets(t, s, "", "", false)
	last := of(object("A", nil), object("B", nil), object("C", nil), union("U", "A", "B"), union("V", "C", "B"), union("W", "C"), union("X"), face("F", nil))
	for pair, want := range map[[2]string]bool{{"U", "V"}: true, {"U", "W"}: false, {"V", "W"}: true, {"X", "X"}: false, {"X", "U"}: false, {"F", "F"}: false, {"U", "B"}: true, {"V", "B"}: true, {"V", "A"}: false} {
		meets(t, last, pair[0], pair[1], want)
	}
}

// containsPair reports whether a and b stand there side by side, in this order.
func containsPair(pairs, a, b string) bool { return slices.Contains(names(pairs), a+"-"+b) }
