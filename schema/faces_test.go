package schema_test

import (
	"fmt"
	"slices"
	"strings"
	"testing"

	"seine/api"
	"seine/defs"
	"seine/value"
	"seine/wrap"
)

// P11.1, rule 5: each name among the Faces.
func TestFaceNames(t *testing.T) {
	s := read(t, "type Query{a:Int}interface F{a:Int}interface G{a:Int}type O{a:Int}union U=O enum E{X}input I{a:Int}")
	for _, name := range names("F G O U E I T Query Int String Boolean ID Float f Z X a __F __typename null") {
		want := unless(name == "F" || name == "G", 5)
		d := object("T", field("a", "Int"))
		is(t, of(append(s.Defs[:7:7], faced(d, name))...), want)
		is(t, of(append([]api.Def{faced(d, name)}, s.Defs...)...), want)
		d.Kind = api.Face
		is(t, of(append(s.Defs[:7:7], faced(d, name))...), want)
		if name != "F" && name != "G" {
			is(t, of(append(s.Defs[:7:7], faced(d, "F", name))...), want)
			is(t, of(append(s.Defs[:7:7], faced(d, name, "G"))...), want)
			is(t, of(append(s.Defs[:7:7], faced(d, "F", name, "G"))...), want)
		}
	}
	each(t, 5,
		"interface F implements F{a:Int}", "type A implements A{a:Int}", "type Query implements Query{a:Int}",
		"interface F implements G{a:Int}interface G implements F{a:Int}",
		"interface F implements G&F{a:Int}interface G implements F&G{a:Int}",
		"interface F implements G{a:Int}interface G implements H{a:Int}interface H implements F{a:Int}",
		"interface F implements G&H{a:Int}interface G implements H&F{a:Int}interface H implements F&G{a:Int}",
		"interface F{a:Int}interface G implements F&G{a:Int}", "interface F{a:Int}type A implements F{a:Int}type B implements F&A{a:Int}",
	)
}

// chain is n Faces, of which each has all those ahead of it, but that one lacks
// another.
func chain(n, one, other int) []api.Def {
	var out []api.Def
	for k := range n {
		d := face(fmt.Sprint("F", k), field("a", "Int"))
		for j := range k {
			if k != one || j != other {
				d.Faces = append(d.Faces, fmt.Sprint("F", j))
			}
		}
		out = append(out, d)
	}
	return out
}

// P11.1, rule 5: the Faces of a Def's Faces are all among its own, through however many of them.
func TestFacesOfFaces(t *testing.T) {
	each(t, 0,
		"interface F{a:Int}interface G implements F{a:Int}type A implements G&F{a:Int}",
		"interface F{a:Int}interface G implements F{a:Int}type A implements F&G{a:Int}",
		"interface F{a:Int}interface G implements F{a:Int}interface H implements F&G{a:Int}type A implements H&F&G{a:Int}",
		"interface F{a:Int}interface G{a:Int}interface H implements G&F{a:Int}type Query implements F&G&H{a:Int}type A implements F{a:Int}type B implements F&G{a:Int}",
	)
	each(t, 5,
		"interface F{a:Int}interface G implements F{a:Int}type A implements G{a:Int}",
		"interface F{a:Int}interface G implements F{a:Int}interface H implements G{a:Int}",
		"interface F{a:Int}interface G implements F{a:Int}interface H implements F&G{a:Int}type A implements H{a:Int}",
		"interface F{a:Int}interface G implements F{a:Int}interface H implements F&G{a:Int}type A implements H&G{a:Int}",
		"interface F{a:Int}interface G implements F{a:Int}interface H implements F&G{a:Int}type A implements H&F{a:Int}",
		"interface F{a:Int}interface G implements F{a:Int}interface H implements F&G{a:Int}type A implements G{a:Int}",
		"interface F{a:Int}interface G implements F{a:Int}interface H implements G{a:Int}type A implements H&F&G{a:Int}",
		"interface F{a:Int}interface G{a:Int}interface H implements F&G{a:Int}type A implements H&F{a:Int}",
		"interface F{a:Int}interface G{a:Int}interface H implements F&G{a:Int}type A implements H&G{a:Int}",
		"interface F{a:Int}interface G{a:Int}interface H implements F{a:Int}interface J implements G{a:Int}type A implements H&F&J{a:Int}",
	)
	for from := range 7 {
		for to := range 7 {
			s := of(append(chain(7, from, to), query())...)
			want := unless(from-to < 2, 5) // else a Face between the two has the one that is lacking
			is(t, s, want)
			is(t, reversed(s), want)
			d := faced(object("A", field("a", "Int")), "F6", "F5", "F4", "F3", "F2", "F1", "F0")
			is(t, of(append(s.Defs, d)...), want)
		}
	}
	for k := range 7 { // of the Faces of a whole chain, an Object may lack the last one alone
		d := faced(object("A", field("a", "Int")), "F6", "F5", "F4", "F3", "F2", "F1", "F0")
		d.Faces = slices.Delete(d.Faces, k, k+1)
		is(t, of(append(chain(7, 0, 0), query(), d)...), unless(k == 0, 5))
	}
}

// P11.1, rule 5: every choice of Faces for an Object and three Faces.
func TestEveryChoiceOfFaces(t *testing.T) {
	all := names("F G H")
	some := func(set int) []string {
		var out []string
		for k, name := range all {
			if set>>k&1 == 1 {
				out = append(out, name)
			}
		}
		return out
	}
	sound := 0
	for set := range 1 << 12 {
		s := of(faced(query(), some(set)...))
		for k, name := range all {
			s.Defs = append(s.Defs, faced(face(name, field("a", "Int")), some(set>>(3*k+3))...))
		}
		want := first(s)
		is(t, s, want)
		if want == 0 {
			sound++
		} else if want != 5 {
			t.Errorf("the choice is refused by rule %d", want)
		}
	}
	if sound < 50 {
		t.Errorf("only %d choices are sound", sound)
	}
}

// P11.1, rule 6: what a Field of a Face asks for, and what is there.
func TestFields(t *testing.T) {
	each(t, 6,
		"interface F{a:Int}type A implements F{b:Int}", "interface F{a:Int b:Int}type A implements F{a:Int}", "interface F{b:Int a:Int c:Int}type A implements F{c:Int a:Int}", "interface F{a:Int}type A implements F{A:Int aa:Int}",
		"interface F{a:Int}interface G implements F{b:Int}", "interface F{a:Int}interface G{b:Int}type A implements F&G{a:Int}", "interface F{a:Int}interface G{b:Int}type A implements G&F{a:Int}", "interface F{a:Int}interface G implements F{a:Int b:Int}type A implements G&F{a:Int}",
		"interface F{a:Int}type A implements F{a:ID}", "interface F{a:Int!}type A implements F{a:Int}", "interface F{a:[Int]}type A implements F{a:Int}", "interface F{a:Int}type A implements F{a:[Int]}", "interface F{a:[Int!]}type A implements F{a:[Int]!}",
		"interface F{a:Int}interface G implements F{a:ID}", "interface F{b:Int a:Int!}interface G implements F{a:Int b:Int}", "interface F{a:Int}interface G{a:Int!}type A implements F&G{a:Int}", "interface F{a:Int}interface G{a:Int!}type A implements G&F{a:Int}",
		"interface F{a:Int}interface G{a:ID}type A implements G&F{a:Int}", "interface F{a:A}type A implements F{a:F}", "interface F{a:A}type A implements F{a:B}type B{a:Int}", "interface F{a:U}type A implements F{a:B}type B{a:Int}union U=A", "interface F{a:A}type A implements F{a:U}union U=A",
		"interface F{a:G}interface G{b:Int}type A implements F{a:F}", "interface F{a:G}interface G implements F{a:F}type A implements F{a:G}", "interface F{a:E}enum E{X}type A implements F{a:G}enum G{X}", "interface F{a:F}type A implements F{a:B}type B{a:A}",
	)
	each(t, 0,
		"interface F{a:Int}type A implements F{b:Int a:Int c:ID}", "interface F{a:Int b:ID}type A implements F{b:ID a:Int}", "interface F{a:Int}interface G{b:Int}type A implements F&G{a:Int b:Int}type B{a:ID}",
		"interface F{a:Int}type A implements F{a:Int!}", "interface F{a:[[Int]!]}type A implements F{a:[[Int!]!]!}", "interface F{a:Int}interface G implements F{a:Int!}type A implements F&G{a:Int!}", "interface F{a:Int}interface G{a:Int!}type A implements F&G{a:Int!}",
		"interface F{a:F}type A implements F{a:A}type B implements F{a:A!}", "interface F{a:[F!]}type A implements F{a:[A!]!}", "interface F{a:U}type A implements F{a:A}union U=B|A type B implements F{a:U}type C implements F{a:B!}", "interface F{a:G}interface G{b:Int}interface H implements G{b:Int}type A implements F{a:H}type B implements G&H{b:Int}type C implements F{a:B}",
		"interface F{a:F}interface G implements F{a:G}type A implements F&G{a:A}", "interface F{a:F}interface G implements F{a:F!}", "interface F{a:E}enum E{X}type A implements F{a:E!}", "interface F{a:Query}type Query implements F{a:Query}",
	)
}

// P11.1, rule 6: of each type for each other in an Object and in a Face just those are taken that are Sub.
func TestFieldTypes(t *testing.T) {
	s := read(t, "type Query{a:Int}interface F{x:Int}interface G implements F{x:Int}type A implements F&G{x:Int}type B implements F{x:Int}type C{x:Int}union U=A|C enum E{X}")
	var types []api.Type
	for _, name := range names("Int ID E F G A B C U T") {
		types = append(types, typ(name), typ(name+"!"), typ("["+name+"]"), typ("["+name+"!]"), typ("["+name+"]!"), typ("[["+name+"]!]"))
	}
	subs := 0
	for _, asked := range types {
		for _, own := range types {
			for _, kind := range []int{api.Object, api.Face} {
				d := api.Def{Kind: kind, Name: "T", Faces: names("Asked"), Fields: []api.FieldDef{{Name: "b", T: typ("Int")}, {Name: "a", T: own}}}
				x := of(append(s.Defs[:len(s.Defs):len(s.Defs)], d, face("Asked", api.FieldDef{Name: "a", T: asked}))...)
				sub := defs.Sub(x, own, asked)
				if sub {
					subs++
				}
				is(t, x, unless(sub, 6))
			}
		}
	}
	if subs < 200 || subs > 2*len(types)*len(types)/4 {
		t.Errorf("%d types are Sub of others", subs)
	}
}

// P11.1, rule 6: the Params of the Field of a Face, and further ones.
func TestFieldParams(t *testing.T) {
	kept := map[string][]string{
		"":                      {"", "(x:Int)", "(x:Int!=1)", "(x:Int=1)", "(x:[Int!])", "(x:Int y:ID z:[[Int!]!])", "(x:[Int]!=[])", "(x:I)", "(x:E)", "(x:E!=X y:I!={a:1})"},
		"(x:Int)":               {"(x:Int)", "(x:Int=1)", "(x:Int y:Int)", "(y:Int x:Int)", "(y:Int!=1 x:Int z:[Int]!=1)", "(x:Int=null)"},
		"(x:Int!)":              {"(x:Int!)", "(x:Int!=1)", "(y:Int x:Int!)"},
		"(x:Int=1)":             {"(x:Int)", "(x:Int=2)", "(x:Int=1)"},
		"(x:Int!=1)":            {"(x:Int!)", "(x:Int!=2)"},
		"(x:[Int!]! y:I! z:E!)": {"(x:[Int!]! y:I! z:E!)", "(z:E! y:I! x:[Int!]!)", "(z:E!=X u:Int y:I! v:Int!=3 x:[Int!]!)", "(y:I!={a:1}z:E! x:[Int!]!=[])"},
	}
	broken := map[string][]string{
		"":                      {"(x:Int!)", "(x:[Int]!)", "(x:Int y:Int!)", "(y:Int! x:Int)", "(y:Int!=1 x:Int!)", "(x:Int! y:Int!=1)", "(x:I!)", "(x:E! y:Int!)", "(a:Int b:Int=1 c:Int!=1 d:[Int!]!)"},
		"(x:Int)":               {"", "(y:Int)", "(X:Int)", "(x:Int!)", "(x:Int!=1)", "(x:[Int])", "(x:ID)", "(x:E)", "(x:Int y:Int!)", "(y:Int! x:Int)", "(y:Int z:Int)", "(xx:Int)"},
		"(x:Int!)":              {"", "(x:Int)", "(x:Int=1)", "(y:Int!)", "(x:[Int!]!)", "(x:Int! y:Int!)", "(x:ID!)"},
		"(x:Int=1)":             {"", "(x:Int!=1)", "(y:Int=1)", "(x:ID=1)"},
		"(x:Int!=1)":            {"", "(x:Int=1)", "(x:Int! y:Int!)"},
		"(x:[Int!]! y:I! z:E!)": {"", "(x:[Int!]!)", "(x:[Int!]! y:I!)", "(y:I! z:E!)", "(x:[Int!]! z:E!)", "(x:[Int]! y:I! z:E!)", "(x:[Int!] y:I! z:E!)", "(x:[Int!]! y:J! z:E!)", "(x:[Int!]! y:I z:E!)", "(x:[Int!]! y:I! z:E)", "(x:I! y:[Int!]! z:E!)", "(x:[Int!]! y:I! z:E! u:Int!)", "(u:Int! x:[Int!]! y:I! z:E!)", "(x:[Int!]! y:I! Z:E!)"},
	}
	for asked, l := range kept {
		for _, own := range l {
			fieldParams(t, asked, own, 0)
		}
	}
	for asked, l := range broken {
		for _, own := range l {
			fieldParams(t, asked, own, 6)
		}
	}
	each(t, 6,
		"interface F{a:Int b(x:Int):Int}type A implements F{b:Int a(x:Int):Int}", "interface F{a(x:Int):Int b:Int}interface G{a:Int}type A implements F&G{a:Int b(x:Int):Int}",
		"interface F{a:Int}interface G implements F{a(x:Int):Int}type A implements F&G{a:Int}", "interface F{a(x:Int):Int}interface G{a(y:Int!):Int}type A implements F&G{a(x:Int y:Int!):Int}", "interface F{a(x:Int):Int}interface G{a(x:Int!):Int}type A implements F&G{a(x:Int):Int}",
	)
	each(t, 0, "interface F{a:Int}interface G implements F{a(x:Int):Int}type A implements F&G{a(x:Int y:Int):Int!}", "interface F{a(x:Int):Int}interface G{a(y:Int!=1):Int}type A implements F&G{a(x:Int y:Int!=2):Int}")
}

// fieldParams holds what is told of a Field with the Params own where a Face asks
// for others: in an Object and in a Face, which is the only one or one of several.
func fieldParams(t *testing.T, asked, own string, want int) {
	t.Helper()
	rest := "input I{a:Int}input J{a:Int}enum E{X}"
	each(t, want,
		rest+"interface F{a"+asked+":Int}type A implements F{a"+own+":Int}",
		rest+"interface F{b:Int a"+asked+":Int}type A implements F{a"+own+":Int b:Int}type B implements F{b:Int a"+asked+":Int}",
		rest+"interface F{a"+asked+":Int}interface A implements F{c:Int a"+own+":Int}",
		rest+"interface F{a"+asked+":Int}interface G{b:Int}type A implements G&F{b:Int a"+own+":Int!}",
		rest+"interface F{a"+asked+":Int}interface G{b:Int}interface A implements F&G{b:Int! a"+own+":Int}",
	)
}

// P11.1, rule 6: one thing in a large Face that is not kept, wherever it stands.
func TestEachField(t *testing.T) {
	const n = 6
	for k := range n * n {
		one, two := face("F"), faced(object("A"), "E0", "F", "E1")
		for j := range n {
			x, y := field(fmt.Sprint("f", j), "Int"), field(fmt.Sprint("f", n-1-j), "Int!")
			for i := range n {
				x.Params = append(x.Params, param(fmt.Sprint("p", i), "Int"))
				y.Params = append(y.Params, param(fmt.Sprint("p", n-1-i), "Int"))
			}
			one.Fields, two.Fields = append(one.Fields, x), append(two.Fields, y)
		}
		s := of(query(), face("E0", field("f0", "Int", param("p1", "Int"))), one, two, face("E1", field("f5", "Int")))
		is(t, s, 0)
		f := &two.Fields[k/n]
		was := f.Params[k%n]
		f.Params[k%n].T = typ("Int!")
		is(t, s, 6)
		f.Params[k%n] = given("q", "Int!", value.Int(1))
		is(t, s, 6)
		f.Params[k%n] = was
		f.Params = slices.Insert(f.Params, k%n, param("q", "Int!"))
		is(t, s, 6)
		f.Params[k%n] = param("q", "[Int!]")
		is(t, s, 0)
		f.T = typ("ID")
		is(t, s, 6)
		f.T, f.Name = typ("Int"), "g"
		is(t, s, 6)
	}
}

// P11.1, rule 7: each Part of a Union.
func TestParts(t *testing.T) {
	s := read(t, "type Query{a:Int}interface F{a:Int}type O implements F{a:Int}type P{a:Int}union V=O enum E{X}input I{a:Int}")
	objects := names("Query O P")
	for _, name := range names("Query O P F V U E I Int String Boolean ID Float Z X o a __O __typename null Mutation") {
		want := unless(slices.Contains(objects, name), 7)
		for _, parts := range [][]string{{name}, {"O", name}, {name, "O"}, {"P", name, "O"}, {"Query", "O", "P", name}} {
			if slices.Contains(objects, name) && len(parts) > 1 {
				continue
			}
			is(t, of(append(s.Defs[:7:7], union("U", parts...))...), want)
			is(t, of(append([]api.Def{union("U", parts...)}, s.Defs...)...), want)
			is(t, of(append(s.Defs[:7:7], union("U", parts...), union("W", "O"))...), want)
			is(t, of(append(s.Defs[:7:7], union("W", "P", "O"), union("U", parts...))...), want)
		}
	}
	each(t, 7, "union U=U", "union U=V union V=U", "union U=Query|V union V=Query", "interface F{a:Int}type A implements F{a:Int}union U=A|F", "union U=E enum E{X}", "union U=Query|Int")
	each(t, 0, "union U=Query", "union U=A|B|Query type A{a:U}type B{a:U}", "enum E{Z F U}interface F{a:Int}", "type Mutation{a:Int}union U=Mutation|Query", "schema{query:A mutation:B}type A{a:Int}type B{b:Int}union U=|B|A")
}

// P11.1, rule 6: all `!`s of the types of Fields, of their Params, and of further ones.
func TestMusts(t *testing.T) {
	for lists := range 5 {
		for m := range 2 << lists {
			for n := range 2 << lists {
				x, y := api.Type{Name: "Int", Lists: lists, Musts: m}, api.Type{Name: "Int", Lists: lists, Musts: n}
				asked := face("F", api.FieldDef{Name: "a", T: y, Params: []api.Param{{Name: "x", T: y}}})
				own := faced(object("A", api.FieldDef{Name: "a", T: x, Params: []api.Param{{Name: "x", T: y}}}), "F")
				is(t, of(query(), asked, own), unless(wrap.Sub(x, y), 6))
				own.Fields[0].T, own.Fields[0].Params[0].T = y, x
				is(t, of(query(), asked, own), unless(m == n, 6))
				further := api.Param{Name: "y", T: x}
				own.Fields[0].Params = []api.Param{{Name: "x", T: y}, further}
				is(t, of(query(), asked, own), unless(!strings.HasSuffix(text(x), "!"), 6))
			}
		}
	}
}

func text(x api.Type) string {
	out, _ := wrap.Print(x)
	return out
}
