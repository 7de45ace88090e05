package schema_test

import (
	"slices"
	"strings"
	"testing"

	"seine/api"
	"seine/defs"
	"seine/every"
	"seine/literal"
	"seine/sdl"
	"seine/value"
)

// A told schema has by name what the rules speak of. It is made once the first
// rule is kept.
type told struct {
	s      api.Schema
	kinds  map[string]int
	byName map[string]api.Def
}

// first plainly goes through the rules: the number of the first one that s does
// not satisfy, or 0.
func first(s api.Schema) int {
	x := told{s, map[string]int{"Int": api.Scalar, "String": api.Scalar, "Boolean": api.Scalar, "ID": api.Scalar}, map[string]api.Def{}}
	for _, d := range s.Defs {
		if _, taken := x.kinds[d.Name]; taken || !sdl.Right(s) || len(d.Name) > 1 && d.Name[:2] == "__" {
			return 1
		}
		x.kinds[d.Name], x.byName[d.Name] = d.Kind, d
	}
	if !sdl.Right(s) {
		return 1
	}
	for k, kept := range []func() bool{x.second, x.third, x.fourth, x.fifth, x.sixth, x.seventh, x.eighth, x.ninth} {
		if !kept() {
			return k + 2
		}
	}
	return 0
}

// kind is that of the name; -1 if there is none.
func (x told) kind(name string) int {
	if kind, ok := x.kinds[name]; ok {
		return kind
	}
	return -1
}

func (x told) second() bool {
	objects := []string{}
	for name, kind := range x.kinds {
		if kind == api.Object {
			objects = append(objects, name)
		}
	}
	if !slices.Contains(objects, x.s.Query) {
		return false
	}
	objects = slices.DeleteFunc(objects, func(name string) bool { return name == x.s.Query })
	return x.s.Mutation == "" || slices.Contains(objects, x.s.Mutation)
}

// once reports whether the names, sorted, have no two neighbours alike, and none
// of them is reserved.
func once(l []string, reserved bool) bool {
	l = slices.Sorted(slices.Values(l))
	return len(slices.Compact(slices.Clone(l))) == len(l) && !(reserved && slices.ContainsFunc(l, func(name string) bool { return strings.HasPrefix(name, "__") }))
}

func paramNames(l []api.Param) (out []string) {
	for _, p := range l {
		out = append(out, p.Name)
	}
	return out
}

func (x told) third() bool {
	for _, d := range x.s.Defs {
		var own []string
		for _, f := range d.Fields {
			own = append(own, f.Name)
			if !once(paramNames(f.Params), true) {
				return false
			}
		}
		if !once(own, true) || !once(paramNames(d.Params), true) || !once(d.Parts, false) || !once(d.Faces, false) {
			return false
		}
	}
	return true
}

func (x told) fourth() bool {
	out, in := []int{api.Scalar, api.Enums, api.Object, api.Face, api.Union}, []int{api.Scalar, api.Enums, api.Input}
	for _, d := range x.s.Defs {
		l := slices.Clone(d.Params)
		for _, f := range d.Fields {
			l = append(l, f.Params...)
			if !slices.Contains(out, x.kind(f.T.Name)) {
				return false
			}
		}
		if slices.ContainsFunc(l, func(p api.Param) bool { return !slices.Contains(in, x.kind(p.T.Name)) }) {
			return false
		}
	}
	return true
}

// fifth counts all Faces of all Faces together.
func (x told) fifth() bool {
	for _, d := range x.s.Defs {
		all := map[string]bool{}
		for _, name := range d.Faces {
			all[name] = true
			for _, further := range x.byName[name].Faces {
				all[further] = true
			}
			if x.kind(name) != api.Face {
				return false
			}
		}
		if all[d.Name] || len(all) != len(d.Faces) {
			return false
		}
	}
	return true
}

func (x told) sixth() bool {
	for _, d := range x.s.Defs {
		for _, name := range d.Faces {
			for _, asked := range x.byName[name].Fields {
				if !slices.ContainsFunc(d.Fields, func(own api.FieldDef) bool { return x.serves(own, asked) }) {
					return false
				}
			}
		}
	}
	return true
}

func (x told) serves(own, asked api.FieldDef) bool {
	type thing struct {
		name string
		t    api.Type
	}
	wanted := map[thing]bool{}
	for _, p := range asked.Params {
		wanted[thing{p.Name, p.T}] = true
	}
	found := 0
	for _, p := range own.Params {
		if wanted[thing{p.Name, p.T}] {
			found++
		} else if p.T.Musts%2 == 1 && !p.Has {
			return false
		}
	}
	return own.Name == asked.Name && defs.Sub(x.s, own.T, asked.T) && found == len(wanted)
}

func (x told) seventh() bool {
	for _, d := range x.s.Defs {
		for _, part := range d.Parts {
			if d.Kind == api.Union && x.kind(part) != api.Object {
				return false
			}
		}
	}
	return true
}

// eighth takes away Inputs that require none of those that are left, till there
// are no more of these.
func (x told) eighth() bool {
	left := map[string][]string{}
	for _, d := range x.s.Defs {
		if d.Kind == api.Input {
			left[d.Name] = nil
			for _, p := range d.Params {
				if p.T == (api.Type{Name: p.T.Name, Musts: 1}) {
					left[d.Name] = append(left[d.Name], p.T.Name)
				}
			}
		}
	}
	for range x.s.Defs {
		for _, d := range x.s.Defs {
			if !slices.ContainsFunc(left[d.Name], func(name string) bool { _, is := left[name]; return is }) {
				delete(left, d.Name)
			}
		}
	}
	return len(left) == 0
}

func (x told) ninth() bool {
	for _, d := range x.s.Defs {
		l := slices.Clone(d.Params)
		for _, f := range d.Fields {
			l = append(l, f.Params...)
		}
		for k, p := range l {
			if p.Has && (!literal.Right(x.s, p.T, p.Default) || k < len(d.Params) && x.kind(p.T.Name) == api.Input) {
				return false
			}
		}
	}
	return true
}

// pieces are Defs of few names, some of which do not go with others, or break a
// rule by themselves.
func pieces() []api.Def {
	one, x := value.Int(1), api.Value{Kind: api.Enum, S: "X"}
	return []api.Def{
		query(), faced(query(), "F"), object("Query", field("a", "A"), field("b", "U")), object("Query", field("a", "Int!", given("x", "I", api.Value{Kind: api.Map}))),
		object("A", field("a", "Int")), faced(object("A", field("a", "Int!")), "F"), faced(object("A", field("a", "Query"), field("b", "Int")), "G", "F"), faced(object("A", field("b", "Int", param("x", "Int"))), "G"), object("A", field("a", "Int", given("x", "E", x))), object("A", field("a", "Int"), field("a", "Int")), object("Mutation", field("a", "I")),
		face("F", field("a", "Int")), face("F", field("a", "U")), faced(face("F", field("a", "Int"), field("b", "ID")), "G"), face("F", field("a", "Int", param("__x", "Int"))),
		face("G", field("b", "Int")), faced(face("G", field("a", "Int"), field("b", "Int")), "F"), face("G", field("b", "Int", param("x", "Int"))),
		union("U", "A", "Query"), union("U", "F"), union("U", "A", "A"), union("Mutation", "Query"),
		enum("E", "X"), enum("E", "Y", "__X"), enum("Int", "X"), enum("A", "X", "X"),
		input("I", param("a", "Int")), input("I", param("i", "I!")), input("I", param("j", "J!"), given("a", "Int", one)), input("I", param("j", "[J!]!"), given("e", "E", x)),
		input("J", param("i", "I!")), input("J", given("i", "I", api.Value{})), input("J", param("j", "J"), param("i", "I!"), given("x", "Int", x)), {Kind: api.Input, Name: "J"},
	}
}

// P11.1, P11.2: all schemas of up to three of the pieces, with an Object Query, and with a Mutation.
func TestEverySchema(t *testing.T) {
	counts := map[int]int{}
	judge := func(s api.Schema) {
		want := first(s)
		counts[want]++
		is(t, s, want)
	}
	for l := range every.List(3, pieces()...) {
		judge(of(l...))
		judge(of(append(slices.Clone(l), query())...))
		judge(api.Schema{Query: "A", Mutation: "Query", Defs: append(slices.Clone(l), query())})
	}
	for n := range 10 {
		if counts[n] < 20 {
			t.Errorf("only %d schemas are told %d", counts[n], n)
		}
	}
}

// P11.1, P11.2: all pairs of a Field of a Face and one of its own.
func TestEveryField(t *testing.T) {
	var all []api.FieldDef
	params := []api.Param{param("x", "Int"), param("x", "Int!"), param("y", "[I!]"), given("y", "Int!", value.Int(1))}
	for _, name := range names("Int Int! A F! U [Int!]") {
		for l := range every.List(2, params...) {
			all = append(all, field("f", name, slices.Clone(l)...))
		}
	}
	counts := map[int]int{}
	for _, asked := range all {
		for _, own := range all {
			s := of(query(), union("U", "A", "Query"), input("I", param("a", "Int")), face("F", field("a", "Int"), asked), faced(object("A", own, field("a", "Int!")), "F"))
			want := first(s)
			counts[want]++
			is(t, s, want)
		}
	}
	if counts[0] < 100 || counts[3] < 100 || counts[6] < 100 {
		t.Errorf("of the pairs, %v are told", counts)
	}
}
