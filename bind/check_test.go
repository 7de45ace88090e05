package bind_test

import (
	"fmt"
	"slices"
	"strings"
	"testing"

	"seine/api"
	"seine/bind"
	"seine/schema"
	"seine/sdl"
)

// show tells a schema as it is written, if it can be.
func show(s api.Schema) string {
	if text, ok := sdl.Print(s); ok {
		return text
	}
	return fmt.Sprintf("%+v", s)
}

// serves holds Check against what is wanted, whichever way round the Defs and their
// Fields stand; and P12.3, if the schema is accepted.
func serves(t *testing.T, s api.Schema, want bool) {
	t.Helper()
	back := s
	back.Defs = nil
	for _, d := range slices.Backward(s.Defs) {
		d.Fields = slices.Clone(d.Fields)
		slices.Reverse(d.Fields)
		back.Defs = append(back.Defs, d)
	}
	for _, x := range []api.Schema{s, back} {
		if got := bind.Check(x); got != want {
			t.Fatalf("Check(%.600s) = %v", show(x), got)
		}
		if want {
			commandsOnly(t, x)
		}
	}
}

// commandsOnly wants of a schema that is accepted that the fields of Mutation come
// from commands, and that no others do.
func commandsOnly(t *testing.T, s api.Schema) {
	t.Helper()
	for _, d := range s.Defs {
		for _, f := range d.Fields {
			b, ok := bind.Of(s, d.Name, f)
			if d.Name == s.Mutation && d.Kind == api.Object {
				if !ok || b.How != api.ByDo {
					t.Fatalf("%s: of Mutation, the field %s is %+v, %v", show(s), f.Name, b, ok)
				}
			} else if b.How == api.ByDo || d.Kind == api.Object && !ok {
				t.Fatalf("%s: of %s, the field %s is %+v, %v", show(s), d.Name, f.Name, b, ok)
			}
		}
	}
}

// whole is a schema that can be served, with all that there is. No object has the
// Face Lone.
const whole = `
	schema{query:Query mutation:Do}
	type Query{a:Int b:[E!]!@col(name:'x') me:A@link(table:'t' col:'c') n(id:ID! ids:[ID]=['x']):N@get(table:'t' arg:'id') us(ids:[String!]!):[U]@get(table:'t' arg:'ids')}
	type Do{put(key:ID! i:I={n:1}):A!@do(cmd:'put' table:'t') cut(key:ID):ID!@do(cmd:'cut' table:'t') add(key:ID by:Int):Int@do(cmd:'add' table:'t' col:'c') burn:U@do(cmd:'burn' table:'t') e:E@do(table:'t' cmd:'put')}
	interface N{id:ID! n:N} interface L implements N{id:ID! n:N@x l:[L]@col}
	type A implements N{id:ID! n:N@link(table:'t' col:'n') u:[[U]]@link(table:'u' col:'u')}
	type B implements N&L{id:ID!@col(name:'key') n:A@link(table:'t' col:'n') l:[B!]!@link(table:'t' col:'l')}
	interface Lone{id:ID!} union U=A|B enum E{X Y} input I{n:Int! e:[E!]=[X] i:I}`

// P12.2: schemas that can be served.
func TestServed(t *testing.T) {
	for _, text := range []string{
		whole,
		"type Query{a:Int}",
		"type Query{a:Int@col(name:'x')}",
		"type Query{a:Query@link(table:'t' col:'c')}",
		"type Query{a(x:ID):Query@get(table:'t' arg:'x')}",
		"type Query{a:Int}type Mutation{a:Int@do(cmd:'burn' table:'t')}",
		"type Query{a:Int}type Mutation{a:Query@do(cmd:'put' table:'t')}",
		"schema{query:Query}type Query{a:Int}enum Mutation{X}",
		"schema{query:Query}type Query{a:Mutation@link(table:'t' col:'c')}type Mutation{a:Int}",
		"schema{query:Mutation mutation:Query}type Mutation{a:Int}type Query{a:Mutation@do(cmd:'cut' table:'t')}",
		"type Query{a:U@link(table:'t' col:'c')}union U=Query union V=Mutation type Mutation{a:U@do(cmd:'put' table:'t')}",
		"type Query{a:F@link(table:'t' col:'c')}interface F{a:F}type Mutation{a:F@do(cmd:'put' table:'t')}",
	} {
		s := read(t, text)
		serves(t, s, true)
		if !served(s) {
			t.Errorf("%s is told plainly not to be served", text)
		}
	}
}

// P12.2: schemas that are not sound, by each of the nine rules, whatever their fields come from; R8: such as have no text.
func TestNotSound(t *testing.T) {
	unsound := []string{
		"type Query{a:Int}type Query{a:Int}", "type Query{a:Int}enum ID{X}", "type Query{a:Int}enum __E{X}",
		"type A{a:Int}", "schema{query:Query mutation:Query}type Query{a:Int@do(cmd:'put' table:'t')}", "schema{query:Query mutation:M}type Query{a:Int}", "schema{query:Query mutation:E}type Query{a:Int}enum E{X}",
		"type Query{a:Int a:Int}", "type Query{__a:Int}", "type Query{a:Int}enum E{X X}", "type Query{a(x:ID x:ID):Query@get(table:'t' arg:'x')}",
		"type Query{a(x:X):Int}", "interface F{a:X}type Query{a:Int}", "type Query{a:Int}input I{a:Query}",
		"type Query implements X{a:Int}", "type Query implements A{a:Int}type A{a:Int}",
		"interface F{a:Int!}type Query implements F{a:Int}",
		"type Query{a:U@link(table:'t' col:'c')}union U=E enum E{X}",
		"type Query{a:Int}input I{i:I!}",
		"type Query{a(x:Int='x'):Int}", "type Query{a:Int}input I{i:I={}}",
	}
	rules := map[int]bool{}
	for _, text := range unsound {
		s := read(t, text)
		rules[schema.Check(s)] = true
		serves(t, s, false)
		for _, d := range s.Defs {
			for _, f := range d.Fields {
				if _, ok := bind.Of(s, d.Name, f); !ok && d.Kind == api.Object && f.Name != "__a" {
					t.Errorf("%s: not told is %s", text, f.Name)
				}
			}
		}
	}
	if len(rules) != 9 || rules[0] {
		t.Errorf("of the rules these are broken: %v", rules)
	}
	serves(t, api.Schema{}, false)
	serves(t, api.Schema{Query: "Query"}, false)
	for _, kind := range []int{api.Union, api.Enums, api.Input, api.Scalar, 6, -1} {
		s := read(t, "type Query{a:Int}")
		d := api.Def{Kind: kind, Name: "A", Fields: s.Defs[0].Fields}
		switch kind {
		case api.Union, api.Enums:
			d.Parts = names("Query")
		case api.Input:
			d.Params = []api.Param{{Name: "a", T: typ("Int")}}
		}
		s.Defs = append(s.Defs, d)
		serves(t, s, false)
		s.Defs[1].Fields = nil
		serves(t, s, kind == api.Union || kind == api.Enums || kind == api.Input)
	}
}

// P12.2: one field of an Object that comes from nowhere is enough, wherever it stands; in a Face it is of no account.
func TestOneField(t *testing.T) {
	wrong := []string{
		"z:A", "z:[U]", "z:Int@link(table:'t' col:'c')", "z:A@col(name:'x')", "z:Int@col", "z:Int@col(name:'')", "z:Int@col(name:1)", "z:Int@col(name:'x' name:'x')", "z:Int@x", "z:Int@col(name:'x')@col(name:'x')",
		"z:A@link(table:'t')", "z(i:Int):A@get(table:'t' arg:'i')", "z(i:[ID]):A@get(table:'t' arg:'i')", "z:A@get(table:'t' arg:'i')", "z:Do@link(table:'t' col:'c')", "z(i:ID):Do@get(table:'t' arg:'i')",
		"z:Int@do(cmd:'zap' table:'t')", "z:[Int]@do(cmd:'put' table:'t')", "z:Int@do(cmd:'put' table:'t' col:'c')", "z:Int@do(cmd:'add' table:'t')", "z:Do@do(cmd:'put' table:'t')", "z:Int@do(cmd:'burn')",
	}
	elsewhere := []string{"z:Int@do(cmd:'put' table:'t')", "z:A@do(cmd:'add' table:'t' col:'c')"}
	inDo := []string{"z:Int", "z:Int@col(name:'x')", "z:A@link(table:'t' col:'c')", "z(i:ID):A@get(table:'t' arg:'i')"}
	s := read(t, whole)
	for k, d := range s.Defs {
		if d.Kind != api.Object && d.Kind != api.Face {
			continue
		}
		right := map[bool][]string{true: elsewhere, false: inDo}[d.Name == "Do"]
		for _, text := range slices.Concat(wrong, elsewhere, inDo) {
			for place := range len(d.Fields) + 1 {
				s.Defs[k].Fields = slices.Insert(slices.Clone(d.Fields), place, field(t, text))
				serves(t, s, d.Name == "Lone" || d.Kind == api.Object && slices.Contains(right, text))
			}
		}
		s.Defs[k].Fields = d.Fields
	}
	serves(t, s, true)
}

// P12.2: the fields of a Face need not come from anywhere, but those of the Objects that have it must.
func TestFieldsOfFaces(t *testing.T) {
	const link = "@link(table:'t' col:'c')"
	for _, dirs := range []string{"", "@col", "@x@y", link, link + link, "@do(cmd:'put' table:'t')", "@do(cmd:'zap' table:'t')", "@col(name:1)"} {
		for _, name := range names("F Query [F] Do [Do!]") {
			lone := "type Query{a:Int}type Do{a:Int@do(cmd:'put' table:'t')}schema{query:Query mutation:Do}interface F{a:" + name + dirs + "}"
			serves(t, read(t, lone), true)
		}
		serves(t, read(t, "type Query implements F{a:F"+link+"}interface F{a:F"+dirs+"}"), true)
		serves(t, read(t, "type Query implements F{a:F"+dirs+"}interface F{a:F"+link+"}"), dirs == link)
	}
}

// P12.2, P12.3: schemas of all choices of some fields, some right in one type or another.
func TestEveryChoice(t *testing.T) {
	fields := []string{
		"a:Int", "a:Int@col(name:'x')", "a:Int@do(cmd:'add' table:'t' col:'c')", "a:A", "a:A@link(table:'t' col:'c')", "a(i:ID):[A]@get(table:'t' arg:'i')", "a(i:ID):A@get(table:'t' arg:'i')", "a:A@do(cmd:'put' table:'t')",
		"a:F@link(table:'t' col:'c')", "a:F@do(cmd:'put' table:'t')", "a:B@link(table:'t' col:'c')", "a:[B]@do(cmd:'put' table:'t')", "a:U@link(table:'t' col:'c')", "a:None",
	}
	counts := map[string]int{}
	for _, query := range fields {
		for _, a := range fields {
			for _, b := range fields {
				for _, mutation := range []string{"", "mutation:A", "mutation:B", "mutation:U", "mutation:None"} {
					s := read(t, strings.Join([]string{"schema{query:Query", mutation, "}type Query{", query, "}type A implements F{id:ID@do(cmd:'cut' table:'t')", a, "}type B{", b, "}union U=B interface F{id:ID}"}, " "))
					if mutation != "mutation:A" {
						s.Defs[1].Fields[0].Dirs = nil
					}
					want := served(s)
					serves(t, s, want)
					if want {
						counts[mutation]++
					}
				}
			}
		}
	}
	if counts[""] < 50 || counts["mutation:A"] < 10 || counts["mutation:B"] < 10 || len(counts) != 3 {
		t.Errorf("these are served: %v", counts)
	}
}
