package fields_test

import (
	"fmt"
	"slices"
	"strings"
	"testing"

	"seine/api"
	"seine/every"
	"seine/fields"
	"seine/schema"
	"seine/value"
)

// asks asks each rule, of whatever: what is told is nobody's matter, but it is
// told, and the same each time.
func asks(t *testing.T, s api.Schema, d api.Doc) {
	t.Helper()
	for n := 7; n < 14; n++ {
		got := fields.Rule(s, d, n)
		if got != fields.Rule(s, d, n) || got && (n < 9 || n > 11) {
			t.Fatalf("Rule(%.600s, %d) is told in two ways, or there is none", show(d), n)
		}
	}
}

// odds are selections of any Kind with any name, with this value as an argument,
// some with others within them.
func odds(v api.Value) []api.Sel {
	var out []api.Sel
	for _, kind := range append(noKinds(), 0, 1, 2, 3) {
		for _, name := range append(names("A a __typename"), "", "\xff") {
			x := api.Sel{Kind: kind, Name: name, Alias: name, On: name, Args: []api.Member{{Name: name, V: v}}, Dirs: []api.Dir{{Name: name}}}
			full := x
			full.Sels = []api.Sel{x, spread("A", x), field("a", x, inline("", x)), {}}
			out = append(out, x, full)
		}
	}
	return out
}

// R1, R8: documents that are not Right, or break rules with smaller numbers, by schemas that are not sound.
func TestAnything(t *testing.T) {
	deep := value.Text("x")
	for range 2000 {
		deep = api.Value{Kind: api.List, L: []api.Value{deep}}
	}
	l := odds(deep)
	schemas := []api.Schema{{}, {Query: "A"}, {Mutation: "A", Defs: pieces()}}
	for few := range every.List(2, pieces()...) {
		schemas = append(schemas, api.Schema{Defs: slices.Clone(few), Query: "A", Mutation: "B"})
	}
	kinds := append(noKinds(), 0, 1, 2)
	for k, s := range schemas {
		asks(t, s, api.Doc{})
		for j, x := range l {
			kind := kinds[(j+k)%len(kinds)]
			one, other := []api.Sel{x}, []api.Sel{l[(j+k)%len(l)], x}
			asks(t, s, api.Doc{Ops: []api.Op{{Kind: kind, Sels: one}, {Kind: kind, Name: "A", Sels: other}, {}}})
			asks(t, s, api.Doc{Frags: []api.Frag{{Name: x.Name, On: x.Name, Sels: other}, {Name: "A", On: "A", Sels: one}, {Name: x.Name}}})
		}
		asks(t, s, api.Doc{Ops: []api.Op{{Sels: l}, {Kind: 1, Sels: l}}, Frags: []api.Frag{{Sels: l}, {On: "A", Sels: l}, {Name: "A", On: "\xff", Sels: l}}})
	}
}

// R1, R8: a document of each sample by schemas that lack what it names, or have it of another kind.
func TestOtherWorlds(t *testing.T) {
	s := sound(t, world)
	for _, d := range samples(t) {
		for k, def := range s.Defs {
			for kind := -1; kind < 7; kind++ {
				x := s
				x.Defs = slices.Clone(s.Defs)
				x.Defs[k].Kind = kind
				asks(t, x, d)
				x.Defs[k] = api.Def{Kind: kind, Name: def.Name}
				asks(t, x, d)
			}
			x := s
			x.Defs = slices.Delete(slices.Clone(s.Defs), k, k+1)
			asks(t, x, d)
		}
		asks(t, api.Schema{}, d)
		asks(t, bare(s), d)
	}
}

// nested is l within so many selections like x.
func nested(n int, x api.Sel, l ...api.Sel) []api.Sel {
	for range n {
		x.Sels = l
		l = []api.Sel{x}
	}
	return l
}

// R1: selections as deep as there may be any, of each Kind, in types that there are and in such as there are not.
func TestDeep(t *testing.T) {
	s := sound(t, world)
	for _, x := range []api.Sel{field("root"), field("none"), field("int"), field("any"), inline(""), inline("Root"), inline("A"), inline("X"), spread("A"), spread(""), {Kind: 3, Name: "root", On: "Root"}} {
		l := nested(1<<16, x, field("int"), field("none"), field("a"), inline("L", field("id")))
		for kind := range 3 {
			asks(t, s, api.Doc{Ops: []api.Op{{Kind: kind, Sels: l}}})
			asks(t, api.Schema{}, api.Doc{Ops: []api.Op{{Kind: kind, Sels: l}}})
		}
		for _, on := range names("Root A L X E") {
			asks(t, s, api.Doc{Frags: []api.Frag{{Name: "A", On: on, Sels: l}}})
		}
		if got, want := fields.Within(s, "Root", l[0]), tell(s).within("Root", l[0]); got != want {
			t.Errorf("within deep selections: %q, want %q", got, want)
		}
	}
}

// P14.2: selections as deep as a document that is Right may have them; the innermost ones decide.
func TestDeepest(t *testing.T) {
	s := sound(t, world)
	ways := [][]api.Sel{{field("root")}, {inline("")}, {inline("Root")}, {inline(""), field("roots")}, {field("root"), inline(""), inline("Root")}}
	for text, want := range map[string]int{
		"int": 0, "root{int}": 0, "...on V{...on Root{int}}": 0, "none": 9, "root{put}": 9, "a": 10, "root{root}": 10,
		"...on A{own}": 11, "int ...A": 11, "...A int": 11, "root{...A}": 11,
	} {
		for _, way := range ways {
			l := read(t, "{"+text+"}").Ops[0].Sels
			for k := range api.MaxDeep - 1 - strings.Count(text, "{") {
				l = nested(1, way[k%len(way)], l...)
			}
			d := api.Doc{Ops: []api.Op{{Sels: l}}}
			if strings.Contains(text, "...A") {
				d.Frags = read(t, "fragment A on A{own}").Frags
			}
			judged(t, s, d, want)
			d.Ops[0].Sels = nested(1, way[0], l...)
			if specified(s, d) {
				t.Errorf("%s may stand still deeper", text)
			}
			asks(t, s, d)
		}
	}
}

// number is the name of a fragment.
func number(k int) string { return fmt.Sprint("f", k) }

// R1, P14.2: documents of many parts, one of which decides.
func TestMany(t *testing.T) {
	s := sound(t, world)
	const n = 4000
	l := slices.Repeat([]api.Sel{field("int"), field("root", field("a", field("own")), inline("", field("id")), spread(number(0))), inline("V", spread(number(1)))}, n)
	var d api.Doc
	for k := range n {
		d.Frags = append(d.Frags, api.Frag{Name: number(k), On: "Root", Sels: []api.Sel{field("int"), spread(number(k + 1))}})
	}
	inner := &d.Frags[n-1].Sels
	*inner = []api.Sel{field("str")}
	d.Ops = []api.Op{{Name: "A", Sels: l}, {Kind: api.Mutation, Name: "B", Sels: []api.Sel{field("put")}}}
	judged(t, s, d, 0)
	for _, at := range []*[]api.Sel{inner, &l[len(l)-1].Sels, &l[1].Sels, &d.Ops[0].Sels} {
		was := *at
		for text, want := range map[string]int{"int": 0, "none": 9, "a": 10, "...on A{own}": 11} {
			*at = slices.Concat(was, read(t, "{...on Root{"+text+"}}").Ops[0].Sels)
			judged(t, s, d, want)
		}
		*at = was
	}
	d.Ops[1].Sels = append(slices.Repeat(d.Ops[1].Sels, n), spread(number(0)))
	judged(t, s, d, 11)
}

// R1, P14.2: names of any length.
func TestLongNames(t *testing.T) {
	s := sound(t, world)
	long := strings.Repeat("x", 1<<20)
	d := api.Doc{Ops: []api.Op{{Sels: []api.Sel{field("int"), field(long, field(long))}}}}
	judged(t, s, d, 9)
	s.Defs[0].Fields = append(s.Defs[0].Fields, api.FieldDef{Name: long, T: api.Type{Name: long}})
	s.Defs = append(s.Defs, api.Def{Kind: api.Object, Name: long, Fields: []api.FieldDef{{Name: long, T: api.Type{Name: "Int"}}}})
	if n := schema.Check(s); n != 0 {
		t.Fatalf("not sound, by rule %d", n)
	}
	judged(t, s, d, 0)
	within(t, s, "Root", field(long), long)
	within(t, s, long, field(long), "Int")
	within(t, s, long+"x", field(long), "")
	within(t, s, long, field(long+"x"), "")
	within(t, s, "Root", inline(long), long)
	d.Ops[0].Sels[1].Sels = []api.Sel{field(long + "x")}
	judged(t, s, d, 9)
	d.Ops[0].Sels[1].Sels = nil
	judged(t, s, d, 10)
	d.Ops[0].Sels[1] = inline(long, field(long))
	judged(t, s, d, 11)
}

// P14.2: schemas of many types, one of which decides.
func TestManyTypes(t *testing.T) {
	const n = 300
	s := api.Schema{Query: "Query", Defs: []api.Def{{Kind: api.Object, Name: "Query", Fields: []api.FieldDef{{Name: "many", T: api.Type{Name: "Many"}}}}}}
	union := api.Def{Kind: api.Union, Name: "Many"}
	many := field("many")
	for k := range n {
		next, behind := number((k+1)%n), number((k+2)%n)
		union.Parts = append(union.Parts, number(k))
		s.Defs = append(s.Defs, api.Def{Kind: api.Object, Name: number(k), Fields: []api.FieldDef{{Name: "next", T: api.Type{Name: next, Lists: 1}}}})
		many.Sels = append(many.Sels, inline(number(k), field("next", field("next", inline(behind, field("__typename"))))))
	}
	s.Defs = append(s.Defs, union)
	if n := schema.Check(s); n != 0 {
		t.Fatalf("not sound, by rule %d", n)
	}
	d := api.Doc{Ops: []api.Op{{Sels: []api.Sel{many}}}}
	judged(t, s, d, 0)
	many.Sels[n-1] = inline(number(n-1), field("next", inline(number(n-1), field("__typename"))))
	judged(t, s, d, 11)
	many.Sels[n-1] = inline(number(n-1), field("next"))
	judged(t, s, d, 10)
	many.Sels[n-1] = inline(number(n-1), field("many"))
	judged(t, s, d, 9)
}
