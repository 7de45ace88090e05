package schema_test

import (
	"fmt"
	"math"
	"testing"

	"seine/api"
	"seine/every"
	"seine/schema"
	"seine/value"
)

// ends asks everything of s: what is told is nobody's matter, but it is told, and
// the same each time.
func ends(t *testing.T, s api.Schema) {
	t.Helper()
	got := schema.Check(s)
	for n := -2; n < 13; n++ {
		if schema.Rule(s, n) != schema.Rule(s, n) || n < 1 && schema.Rule(s, n) {
			t.Errorf("Rule(%.300s, %d) is told in two ways, or there is none", show(s), n)
		}
		if n > 0 && n < got && !schema.Rule(s, n) {
			t.Errorf("Check(%.300s) = %d, but Rule %d is not kept", show(s), got, n)
		}
	}
	if got < 0 || got > 9 || got > 0 && schema.Rule(s, got) || schema.Check(s) != got {
		t.Errorf("Check(%.300s) = %d, then %d", show(s), got, schema.Check(s))
	}
}

// full is a definition of this kind with all that any kind has.
func full(kind int, name, t string) api.Def {
	p := []api.Param{{Name: name, T: api.Type{Name: t, Musts: 1}, Has: true}, {Name: "b", T: api.Type{Name: name, Musts: 1}, Default: value.Int(1)}}
	return api.Def{
		Kind: kind, Name: name, Faces: []string{t, name, "F"}, Parts: []string{name, t, "X"}, Params: p,
		Fields: []api.FieldDef{{Name: name, T: api.Type{Name: t}, Params: p}, {Name: t, T: api.Type{Name: name, Lists: 1, Musts: 3}, Params: p}, {Name: name, T: api.Type{Name: name}}},
	}
}

// P11.1, P11.2, R1, R8: both functions end, whatever they are given.
func TestAnything(t *testing.T) {
	var l []api.Def
	for _, kind := range []int{0, 1, 2, 3, 4, 5, 6, -1, math.MaxInt, math.MinInt, 1<<32 + 1} {
		l = append(l, full(kind, "F", "I"), full(kind, "I", "F"), full(kind, "", "\xff"), full(kind, "Int", "Int"), full(kind, "__F", "I"))
	}
	for two := range every.List(2, l...) {
		s := of(two...)
		s.Query, s.Mutation = "F", "I"
		if len(two) > 0 {
			is(t, s, 1)
		}
		ends(t, s)
		s.Query, s.Mutation = "", "\xff"
		is(t, s, 1)
		ends(t, s)
		ends(t, of(append(two, query(), input("I", param("a", "I!")))...))
	}
	for _, x := range []api.Type{{}, {Name: "I", Lists: -1}, {Name: "I", Lists: math.MaxInt, Musts: math.MaxInt}, {Name: "I", Lists: math.MinInt, Musts: math.MinInt}, {Name: "I", Lists: 64, Musts: 1}, {Name: "I", Musts: -1}, {Name: "\xff", Lists: 4, Musts: 31}} {
		for _, v := range []api.Value{{}, {Kind: 9}, {Kind: -1}, {Kind: api.Map, M: []api.Member{{Name: "a"}, {Name: "a"}}}, {Kind: api.Num, S: "x"}, value.Int(1)} {
			p := api.Param{Name: "a", T: x, Has: true, Default: v}
			s := of(query(), object("A", api.FieldDef{Name: "a", T: x, Params: []api.Param{p}}), input("I", p))
			is(t, s, 1)
			ends(t, s)
		}
	}
	for _, s := range []api.Schema{{}, {Query: "Query"}, {Defs: make([]api.Def, 3)}, {Query: "__", Mutation: "__", Defs: []api.Def{{}, {}}}} {
		ends(t, s)
	}
}

// P11.1, R1: rings of all kinds of things, also where two of them have one name.
func TestAnyRings(t *testing.T) {
	for _, l := range [][]api.Def{
		{input("I", param("a", "I!")), input("I", param("a", "J!")), input("J", param("a", "I!"), param("a", "I!"))},
		{input("Int", param("a", "Int!")), input("", param("a", "!"))},
		{face("F", field("a", "F!", param("a", "F!"))), faced(face("G", field("a", "G!")), "G", "G", "H"), faced(face("H", field("a", "H!")), "G")},
		{faced(object("A", field("a", "A!")), "A"), faced(face("A", field("a", "A!")), "A"), union("A", "A", "A"), input("A", given("a", "A!", api.Value{Kind: api.Map, M: []api.Member{{Name: "a", V: api.Value{Kind: api.Map}}}}))},
		{union("U", "U", "V"), union("V", "U", "V"), enum("V", "V")},
	} {
		for k := range l {
			ends(t, of(l[k:]...))
			ends(t, of(append(l[:k:k], query())...))
			ends(t, reversed(of(append(l, query())...)))
		}
	}
}

// P11.1: values nested as deep as there may be any, and many of everything.
func TestLarge(t *testing.T) {
	v, m := value.Int(1), api.Value{Kind: api.Map}
	for range 4000 {
		v = api.Value{Kind: api.List, L: []api.Value{v}}
		m = api.Value{Kind: api.Map, M: []api.Member{{Name: "i", V: m}}}
	}
	for _, x := range []api.Value{v, m} {
		s := of(query(), input("I", api.Param{Name: "i", T: typ("I")}, given("a", "[Int]", x)), object("A", field("a", "Int", given("i", "I", x))))
		is(t, s, 1)
		ends(t, s)
	}
	const n = 1000
	s := of(query(), face("F"), faced(object("A"), "F"), union("U"), enum("E"), input("I"))
	for k := range n {
		name := fmt.Sprint("n", k)
		f := field(name, "F", param("x", "Int"))
		s.Defs[1].Fields, s.Defs[2].Fields = append(s.Defs[1].Fields, f), append([]api.FieldDef{field(name, "A!", param("y", "E"), param("x", "Int"))}, s.Defs[2].Fields...)
		s.Defs[3].Parts, s.Defs[4].Parts = append(s.Defs[3].Parts, name), append(s.Defs[4].Parts, name)
		s.Defs[5].Params = append(s.Defs[5].Params, given(name, "E", api.Value{Kind: api.Enum, S: name}))
		s.Defs = append(s.Defs, object(name, field("a", "Int")))
	}
	is(t, s, 0)
	last := s.Defs[5].Params[n-1]
	s.Defs[5].Params[n-1].Default.S = "z"
	is(t, s, 9)
	s.Defs[5].Params[n-1] = param(last.Name, "I!")
	is(t, s, 8)
	s.Defs[3].Parts[n-1] = "z"
	is(t, s, 7)
	s.Defs[2].Fields[0].Params[1].Name = "z"
	is(t, s, 6)
	s.Defs[len(s.Defs)-1].Faces = names("z")
	is(t, s, 5)
	s.Defs[len(s.Defs)-1].Fields[0].T.Name = "z"
	is(t, s, 4)
	s.Defs[4].Parts[n-1] = "n0"
	is(t, s, 3)
	s.Mutation = "z"
	is(t, s, 2)
	s.Defs[len(s.Defs)-1].Name = "n0"
	is(t, s, 1)
}
