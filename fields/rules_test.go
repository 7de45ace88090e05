package fields_test

import (
	"fmt"
	"math"
	"slices"
	"strings"
	"testing"

	"seine/api"
	"seine/fields"
	"seine/graph"
	"seine/print"
)

// turned is l the other way round, and so are the lists within it.
func turned(l []api.Sel) []api.Sel {
	var out []api.Sel
	for _, x := range slices.Backward(l) {
		x.Sels = turned(x.Sels)
		out = append(out, x)
	}
	return out
}

// reversed is d the other way round.
func reversed(d api.Doc) api.Doc {
	var out api.Doc
	for _, op := range slices.Backward(d.Ops) {
		op.Sels = turned(op.Sels)
		out.Ops = append(out.Ops, op)
	}
	for _, f := range slices.Backward(d.Frags) {
		f.Sels = turned(f.Sels)
		out.Frags = append(out.Frags, f)
	}
	return out
}

// specified reports whether what is told of d is specified at all: whether it is
// Right and satisfies the rules from 1 to 8.
func specified(s api.Schema, d api.Doc) bool {
	for n := 1; n <= 8; n++ {
		if !graph.Rule(s, d, n) {
			return false
		}
	}
	return print.Right(d)
}

// judged holds what is told of d, by each rule up to the first one that it does
// not keep, whichever way round it stands; what is told of further rules is
// unspecified.
func judged(t *testing.T, s api.Schema, d api.Doc, first int) {
	t.Helper()
	if !specified(s, d) {
		t.Fatalf("%.600s: nothing is specified", show(d))
	}
	for _, x := range []api.Doc{d, reversed(d)} {
		for n := 9; n <= 11 && (first == 0 || n <= first); n++ {
			if got := fields.Rule(s, x, n); got != (n != first) {
				t.Fatalf("Rule(%.600s, %d) = %v", show(x), n, got)
			}
		}
	}
}

// show tells a document as it is written, if it can be.
func show(d api.Doc) string {
	if text, ok := print.Text(d); ok {
		return text
	}
	return fmt.Sprintf("%+v", d)
}

// entries are, for each type of world, documents in which what is at the `$`
// stands in it.
func entries() map[string][]string {
	return map[string][]string{
		"Root": {"{$}", "query{$}", "query P{int}query Q{$}query R{int}", "query Q{$}mutation M{put}", "{root{$}}", "{int roots{int root{$}}}", "mutation{root{$}}", "mutation{x:int{$}}", "{other{...on Root{$}}}", "{last{...on V{...on Root{$}}}}", "{other{...{...on Root{root{$}}}}}"},
		"Do":   {"mutation{$}", "query Q{int}mutation M{$}", "mutation M{put}mutation N{$}query P{int}", "mutation{do{$}}", "mutation{dos{...{do{$}}}}", "{do{$}}", "{root{do{dos{$}}}}"},
		"N":    {"{node{$}}", "{nodes{$}}", "mutation{node{next{$}}}", "{a{...on N{$}}}", "{any{...on N{$}}}", "{b{own{$}}}", "{more{next{$}}}"},
		"M":    {"{more{$}}", "{b{next{$}}}", "{b{...on M{$}}}", "{node{...{...on M{$}}}}", "mutation{any{...on M{$}}}"},
		"L":    {"{lone{$}}", "{lone{self{$}}}", "mutation{root{lone{$}}}", "{lone{...{self{...{$}}}}}"},
		"A":    {"{a{$}}", "{as{$}}", "{root{a{next{$}}}}", "mutation{a{$}}", "{node{...on A{$}}}", "{any{...on A{$}}}", "{alls{...on N{...on A{$}}}}"},
		"B":    {"{b{$}}", "{b{bs{bs{$}}}}", "{any{...on B{$}}}", "{more{...on B{$}}}", "{other{...on U{...on B{$}}}}", "mutation{node{...{...on B{$}}}}"},
		"C":    {"{c{$}}", "{c{c{$}}}", "{last{...on C{$}}}", "{other{...on W{...{...on C{$}}}}}"},
		"U":    {"{any{$}}", "{alls{$}}", "mutation{any{$}}", "{as{us{$}}}", "{node{...on U{$}}}", "{other{...on U{$}}}"},
		"V":    {"{other{$}}", "{c{v{$}}}", "{...on V{$}}", "{last{...on V{$}}}", "{root{...on V{$}}}"},
		"W":    {"{last{$}}", "{c{...on W{$}}}", "{other{...on W{$}}}"},
	}
}

// hosts are documents in which what is at the `$` stands in the type: in those of
// entries, in an Inline without an On and in one with it, and in a fragment. There
// may be no Inline on L, and no fragment, as no object has it.
func hosts(typ string) []string {
	ways := []string{"$", "...{$}", "...{__typename ...{$}x:__typename}"}
	if typ != "L" {
		ways = append(ways, "...on T{$}", "...{...on T{...on T{$}}__typename}", "...F#fragment F on T{$}", "...{...G}...F#fragment F on T{__typename}fragment G on T{...F ...{$}}", "...F ...G#fragment G on T{...on T{...H}}fragment F on T{__typename}fragment H on T{x:__typename ...on T{$}}")
	}
	var out []string
	for _, host := range entries()[typ] {
		for _, way := range ways {
			sels, frags, _ := strings.Cut(strings.ReplaceAll(way, " T", " "+typ), "#")
			out = append(out, strings.ReplaceAll(host, "$", sels)+frags)
		}
	}
	return out
}

// A told is selections that stand in a type, apart by `;`, with the first rule that
// they do not keep. Fragments stand behind a `#`.
type told struct {
	typ   string
	first int
	sels  string
}

func selections() []told {
	return []told{
		{"Root", 0, "int;str;flag;id;enum;enums;ints;ints(x:1 none:2);__typename;int@skip(if:true);root{int};roots{root{int}};a{own};as{id next{own}};b{also};c{c{id}};node{id};nodes{next{id}};more{also};lone{lone};any{__typename};alls{__typename};other{__typename};last{__typename};do{put}"},
		{"Root", 0, "x:int;none:int;own:str;int:root{int};a:b{own{id}};x:__typename;__typename:int;a:int int:a{own};int int str a{id}a{own}"},
		{"Root", 0, "...{int};...{root{int}};...@skip(if:true){...{a{own}}};...on Root{int};...on V{__typename};...on V{...on Root{root{int}}};...X#fragment X on Root{int};...X#fragment X on V{...on C{id}...on Root{str}};a{...on N{id}...on U{__typename}...X}#fragment X on A{own};...Root#fragment Root on Root{int}"},
		{"Root", 9, "none;own;put;dos{put};also;X;E;root2;Int;Root;INT;inte;in;i;__schema;__type;__typenam;typename;_;x:none;int:none;root:own;__typename:own;none{int};own{id};root{own};root{int none};root{none int};a{int};node{own};node{also};any{id};any{a{id}};any{own};other{c{id}};last{id};more{own};lone{id};lone{__typename int};int{__typename};enum{X};int{int};enums{__typename}"},
		{"Root", 9, "...{own};...on Root{own};...on V{int};...on V{...on Root{own}};...X#fragment X on Root{none};...X#fragment X on V{id};root{...{...{own}}};a{...on A{...on N{own}}};any{...on N{also}...on M{also}};...X#fragment X on Root{a{us{...on B{next{own}}}}};a{...X}#fragment X on N{next{own}};root{...on Root{...X}}#fragment X on Root{...{none}}"},
		{"Root", 10, "root;roots;a;as;b;c;node;nodes;more;lone;any;alls;other;last;do;x:a;int:a;node@include(if:true);root{root};root{int a};root{a int};as{next};as{us};nodes{next};any{...on B{bs}};last{...on C{c}};c{v};...{root};...on Root{as};...on V{...on Root{any}};...X#fragment X on Root{int nodes};a{...X}#fragment X on N{next}"},
		{"Root", 10, "int{...on Root{int}};str{...on A{own}};flag{...{...on N{id}}};id{...on U{__typename}};enum{...on Root{enum}};enums{...on B{id}};ints{...X}#fragment X on Root{str};int{...{...X}}#fragment X on U{__typename};ints(x:1){...on Root{int}};__typename{...on Root{int}};x:enum{...on Root{int}};root:int{...on Root{int}};root{id{...on A{own}}};a{es{...on U{__typename}}};any{__typename{...X}}#fragment X on U{__typename};...{str{...on Root{str}}};...on Root{root{enum{...on Root{int}}}}"},
		{"Root", 11, "...on Do{put};...on N{id};...on M{id};...on L{lone};...on A{own};...on B{id};...on C{id};...on U{__typename};...on W{__typename};...X#fragment X on A{own};...X#fragment X on N{id};...X#fragment X on L{lone};...X#fragment X on U{...on A{own}};root{...on A{own}};a{...on B{own{id}}};a{...on M{id}};a{...on Root{int}};a{...on V{__typename}};node{...on C{id}};node{...on V{...on B{...on C{id}}}};more{...on A{own}};lone{...on L{lone}};lone{...on N{id}};any{...on W{__typename}};other{...on A{own}};last{...on B{id}}"},
		{"Root", 11, "a{...{...on B{id}}};...{...on A{own}};...on Root{...on W{__typename}};...on V{...on N{...on C{id}}};...on V{...on A{own}};root{int ...{...X}}#fragment X on W{__typename};...X#fragment X on Root{...on Do{put}};a{...X}#fragment X on N{...on U{...on C{id}}};a{us{...X}}#fragment X on N{...on A{...on B{id}}};...on Root{a{id}...on A{id}};node{...X}#fragment X on L{lone}"},
		{"Do", 0, "put;int{int};do{put};dos{do{put}};root{int};a{own};any{...on A{own}};node{id};enum;__typename;x:put;...{put};...on Do{put};...X#fragment X on Do{put}"},
		{"Do", 9, "str;own;put2;Put;ints;int{put};root{put};x:id;put:id;none;do{id};...{id};...on Do{str};...X#fragment X on Do{flag};any{put};node{put}"},
		{"Do", 10, "int;do;dos;root;a;any;node;x:any;put{...on Do{put}};enum{...on Do{put}};__typename{...on Do{put}};put{...X}#fragment X on Do{put};...{do};...on Do{dos};do{a};...X#fragment X on Do{root}"},
		{"Do", 11, "...on Root{int};...on A{own};...on V{__typename};...on L{lone};...on U{__typename};root{...on Do{put}};do{...on Root{int}};...{...on N{id}};...on Do{...on Root{int}};...X#fragment X on Root{int};...X#fragment X on Do{...on Root{int}};...X#fragment X on W{__typename};a{...X}#fragment X on B{id}"},
		{"N", 0, "id;next{id};__typename;id:__typename;...{id};...on A{own};...on B{bs{id}};...on M{also};...on U{__typename};...on V{...on B{id}};next{...on A{own}};...X#fragment X on A{own};...X#fragment X on U{...on N{id}}"},
		{"N", 9, "own;also;bs{id};us{id};none;int;x:own;id:own;...{own};next{own};...on M{own};...on U{id};...X#fragment X on N{own};...X#fragment X on V{id}"},
		{"N", 10, "next;next{next};id{...on N{id}};__typename{...on A{own}};x:next;...{next};...on B{bs};...on A{es{...on A{own}}};...X#fragment X on A{us}"},
		{"N", 11, "...on C{id};...on W{__typename};...on L{lone};...on Root{int};...on Do{put};next{...on C{id}};...on A{...on B{id}};...on M{...on A{own}};...on V{...on A{own}};...X#fragment X on C{id};...X#fragment X on A{...on M{id}};...{...X}#fragment X on Root{int}"},
		{"M", 0, "id;also;next{id};...on B{own{id}};...on N{id};...on U{__typename};...on V{__typename};__typename;...X#fragment X on V{...on B{id}};...X#fragment X on M{also}"},
		{"M", 9, "own;bs{id};next{also};x:own;...{bs{id}};...on N{also};...X#fragment X on N{also}"},
		{"M", 10, "next;id{...on M{id}};also{...on N{id}};...on B{bs};next{next};...X#fragment X on M{next}"},
		{"M", 11, "...on A{own};...on C{id};...on W{__typename};...on N{...on A{...on M{id}}};...on L{lone};...X#fragment X on A{own};...X#fragment X on W{__typename}"},
		{"L", 0, "lone;self{lone};self{self{__typename}};__typename;...{lone};x:self{y:lone}"},
		{"L", 9, "id;none;int;Lone;x:id;self{id};...{self{own}}"},
		{"L", 10, "self;x:self;self{self};lone{...on L{lone}};__typename{...on L{lone}};...{self};self{lone{...on Root{int}}}"},
		{"L", 11, "...on L{lone};...on A{own};...on Root{int};...on N{id};...on U{__typename};self{...on L{lone}};...{...on L{self{lone}}};...X#fragment X on L{lone};self{...X}#fragment X on L{lone};...X#fragment X on N{id}"},
		{"A", 0, "id;own;next{own};us{__typename};es;...on N{id};...on U{...on A{own}};...on A{own};__typename;own:id id:own;...X#fragment X on N{id}"},
		{"A", 9, "also;bs{id};int;x:also;own:also;us{own};next{also};...on N{own};...on U{own};us{...on N{es}};...X#fragment X on U{own}"},
		{"A", 10, "next;us;own{...on A{own}};es{...on A{own}};x:us;us{...on A{us}};...{next};...X#fragment X on A{us}"},
		{"A", 11, "...on B{id};...on M{id};...on C{id};...on V{__typename};...on W{__typename};...on Root{int};...on N{...on C{id}};us{...on C{id}};...X#fragment X on B{id};...X#fragment X on V{...on B{id}}"},
		{"B", 0, "id;also;own{id};next{also};bs{bs{id}};...on M{also};...on N{id};...on U{__typename};...on V{__typename};...X#fragment X on V{...on M{...on U{...on B{id}}}}"},
		{"B", 9, "es;us{__typename};own{own};next{own};...on M{own{id}};x:es;...X#fragment X on M{bs{id}}"},
		{"B", 10, "own;next;bs;also{...on B{id}};bs{own};next{next};...on M{next};...X#fragment X on N{next}"},
		{"B", 11, "...on A{id};...on C{id};...on W{__typename};...on Root{int};...on V{...on A{id}};...on L{lone};...X#fragment X on A{id};own{...X}#fragment X on C{id}"},
		{"C", 0, "id;c{c{id}};v{__typename};...on V{__typename};...on W{...on C{id}};v{...on B{id}...on Root{int}...on C{id}};...X#fragment X on W{__typename}"},
		{"C", 9, "own;next{id};v{c{id}};...on W{id};x:int;...X#fragment X on V{id}"},
		{"C", 10, "c;v;id{...on C{id}};c{c};v{...on Root{root}};...X#fragment X on C{v}"},
		{"C", 11, "...on A{id};...on N{id};...on U{__typename};...on Root{int};...on V{...on B{...on C{id}}};v{...on A{id}};...X#fragment X on Root{int};...X#fragment X on V{...on A{id}}"},
		{"U", 0, "__typename;x:__typename;...{__typename};...on A{own};...on B{own{id}};...on N{id};...on M{also};...on V{__typename};...on U{__typename};...X#fragment X on M{also}"},
		{"U", 9, "id;own;next{id};A;U;x:id;__typename2;...{id};...on U{id};...on V{id};...X#fragment X on U{id};...X#fragment X on N{own}"},
		{"U", 10, "__typename{...on A{own}};...on A{next};...on B{bs};...{__typename{...on U{__typename}}};...X#fragment X on N{next}"},
		{"U", 11, "...on C{id};...on W{__typename};...on Root{int};...on L{lone};...on V{...on A{own}};...on N{...on C{id}};...X#fragment X on C{id};...{...X}#fragment X on W{...on C{id}}"},
		{"V", 0, "__typename;...on C{id};...on B{id};...on Root{int};...on N{id};...on M{also};...on W{__typename};...on U{...on B{own{id}}};...on N{...on A{own}};...X#fragment X on U{__typename}"},
		{"V", 9, "id;c{id};int;...{int};...on Root{id2:own};...on W{c{id}};...on C{int};...X#fragment X on V{__typename int}"},
		{"V", 10, "__typename{...on C{id}};...on Root{root};...on C{v};...on B{also{...on B{id}}};...X#fragment X on V{...on C{c}}"},
		{"V", 11, "...on A{own};...on Do{put};...on L{lone};...on N{...on C{id}};...on U{...on C{id}};...on B{...on Root{int}};...X#fragment X on A{own};...X#fragment X on Do{put}"},
		{"W", 0, "__typename;...on C{id c{id}};...on V{...on C{id}};...on V{...on B{id}};...on W{__typename};...X#fragment X on C{v{__typename}}"},
		{"W", 9, "id;c{id};v{__typename};...on V{id};...on W{id};...X#fragment X on W{c{id}}"},
		{"W", 10, "__typename{...on C{id}};...on C{c};...X#fragment X on C{c{v}}"},
		{"W", 11, "...on A{id};...on B{id};...on U{__typename};...on N{id};...on Root{int};...on V{...on A{id}};...X#fragment X on B{id};...{...X}#fragment X on Root{int}"},
	}
}

// P14.2: selections that keep the rules and such as break each of them, at the top of each kind of operation and of fragments, and within Fields, Inlines and one another.
func TestEveryHost(t *testing.T) {
	s := sound(t, world)
	hosted := map[string][]string{}
	for typ := range entries() {
		hosted[typ] = hosts(typ)
	}
	around := []string{"$", "__typename $", "$ __typename", "x1:__typename $ ...{x2:__typename}"}
	turn := 0
	for _, x := range selections() {
		for _, text := range strings.Split(x.sels, ";") {
			sels, frags, _ := strings.Cut(text, "#")
			for _, host := range hosted[x.typ] {
				turn++
				d := read(t, strings.ReplaceAll(host, "$", strings.ReplaceAll(around[turn%4], "$", sels))+frags)
				if first(s, d) != x.first {
					t.Fatalf("%s breaks the rules %v, in %s", text, broken(s, d), show(d))
				}
				judged(t, s, d, x.first)
			}
		}
	}
}

// breaksOne is what breaks just one rule in each type: where leaves have
// selections, there is no such thing, as these stand in no type of which there are
// fields or objects.
func breaksOne(typ string) map[int]string {
	leads := map[string]string{"Root": "a", "Do": "any", "N": "next", "M": "next", "L": "self", "A": "us", "B": "bs", "C": "v"}
	out := map[int]string{0: "__typename", 9: "none", 11: "...on L{lone}"}
	if lead := leads[typ]; lead != "" {
		out[10] = lead
	}
	return out
}

// P14.2: a document that breaks just one rule is told to break this one, and to keep those ahead of it, in each host.
func TestJustOne(t *testing.T) {
	s := sound(t, world)
	for typ := range entries() {
		for n, sels := range breaksOne(typ) {
			var want []int
			if n > 0 {
				want = append(want, n)
			}
			for _, host := range hosts(typ) {
				d := read(t, strings.ReplaceAll(host, "$", sels))
				if !slices.Equal(broken(s, d), want) {
					t.Fatalf("%s breaks the rules %v", show(d), broken(s, d))
				}
				judged(t, s, d, n)
			}
		}
	}
}

// objectsOf are the objects for which each type of world stands.
func objectsOf() map[string]string {
	return map[string]string{"Root": "Root", "Do": "Do", "N": "A B", "M": "B", "L": "", "A": "A", "B": "B", "C": "C", "U": "A B", "V": "C B Root", "W": "C"}
}

// P14.2: an Inline and a Spread of each type within each type.
func TestEveryMeeting(t *testing.T) {
	s := sound(t, world)
	kept := 0
	for typ, objects := range objectsOf() {
		for on, others := range objectsOf() {
			first := 11
			for _, object := range names(objects) {
				if slices.Contains(names(others), object) {
					first = 0
				}
			}
			for _, host := range hosts(typ) {
				for _, sels := range []string{"...on #{__typename}", "...X", "...{...X}", "...{__typename ...on #{...{__typename}}}"} {
					text := strings.ReplaceAll(strings.ReplaceAll(host, "$", sels), "#", on)
					if strings.Contains(sels, "X") {
						text += "fragment X on " + on + "{__typename}"
					}
					judged(t, s, read(t, text), first)
				}
			}
			if first == 0 {
				kept++
			}
		}
	}
	if kept != 42 {
		t.Errorf("%d pairs of types meet", kept)
	}
}

// P14.2: of a Field, whether it has selections hangs on the name of its type alone, however many lists there are and whatever must be there.
func TestEveryList(t *testing.T) {
	for _, shape := range names("# #! [#] [#!] [#]! [#!]! [[#]] [[#!]]! [[[[#]]]] [[[[#!]!]!]!]!") {
		for _, typ := range names("Int String Boolean ID E Query A N U") {
			s := sound(t, "type Query{f:"+strings.ReplaceAll(shape, "#", typ)+" a:A}type A implements N{f:Int}interface N{f:Int}union U=A|Query enum E{X}")
			on, without, within := typ, 10, 0
			if strings.Contains("Int String Boolean ID E", typ) {
				on, without, within = "Query", 0, 10
			}
			for _, host := range []string{"{#}", "{...{#}}", "{...on Query{x:__typename #}}", "{...X}fragment X on Query{#}"} {
				judged(t, s, read(t, strings.ReplaceAll(host, "#", "f")), without)
				judged(t, s, read(t, strings.ReplaceAll(host, "#", "x:f")), without)
				judged(t, s, read(t, strings.ReplaceAll(host, "#", "f{...on "+on+"{__typename}}")), within)
				judged(t, s, read(t, strings.ReplaceAll(host, "#", "f{...Y}")+"fragment Y on "+on+"{__typename}"), within)
			}
		}
	}
}

// P14.2: there are no rules but 9 to 11.
func TestNumbers(t *testing.T) {
	s := sound(t, world)
	l := []api.Doc{{}, {Ops: []api.Op{{Sels: []api.Sel{field("none")}}}}}
	for typ := range entries() {
		for _, host := range hosts(typ)[:3] {
			d := read(t, strings.ReplaceAll(host, "$", "__typename"))
			judged(t, s, d, 0)
			l = append(l, d, read(t, strings.ReplaceAll(host, "$", "none")))
		}
	}
	numbers := []int{-9, -10, -11, 256 + 9, 256 + 10, 1<<32 + 9, 1<<32 + 10, 1<<32 + 11, -1<<32 + 11, math.MaxInt, math.MinInt, math.MinInt + 9}
	for n := -3; n < 40; n++ {
		if n < 9 || n > 11 {
			numbers = append(numbers, n)
		}
	}
	for _, n := range numbers {
		for _, d := range l {
			if fields.Rule(s, d, n) || fields.Rule(api.Schema{}, d, n) {
				t.Errorf("there is a rule %d", n)
			}
		}
	}
}

// P14.2: names of types and fields that are not those of world, as they are written.
func TestOtherSchemas(t *testing.T) {
	for text, want := range map[string]int{
		"type Query{Query:Query}#{Query{Query{__typename}}}":                                                 0,
		"type Query{Query:Query}#{Query{Query}}":                                                             10,
		"type Query{Query:Query}#{query}":                                                                    9,
		"type Query{a:Int}type Mutation{b:Int}#query Q{a}mutation M{b}":                                      0,
		"type Query{a:Int}type Mutation{b:Int}#query Q{a}mutation M{a}":                                      9,
		"type Query{a:Int}type Mutation{b:Int}#query Q{b}mutation M{b}":                                      9,
		"type Query{a:Int}type Mutation{b:Int}#query Q{...F}mutation M{b}fragment F on Query{a}":             0,
		"type Query{a:Int}type Mutation{b:Int}#query Q{...F}mutation M{...F}fragment F on Query{a}":          11,
		"schema{query:Mutation mutation:Query}type Query{a:Int}type Mutation{b:Int}#query Q{b}mutation M{a}": 0,
		"schema{query:Mutation mutation:Query}type Query{a:Int}type Mutation{b:Int}#{a}":                     9,
		"schema{query:Query}type Query{a:Mutation}type Mutation{b:Int}#{a{b}}":                               0,
		"schema{query:Query}type Query{a:Mutation}type Mutation{b:Int}#{b}":                                  9,
		"schema{query:B}type Query{a:Int}type B{b:Query}#{b{a}}":                                             0,
		"schema{query:B}type Query{a:Int}type B{b:Query}#{...on Query{a}}":                                   11,
		"type Query{a:Int}type A{b:Int}union U=Query|A#{...on U{...on A{b}}}":                                0,
		"type Query{a:Int}type A{b:Int}union U=Query|A#{...on A{...on U{b}}}":                                9,
		"type Query implements I{a:I}interface I{a:I}#{a{a{...on Query{a{a{__typename}}}}}}":                 0,
		"type Query implements I{a:I}interface I{a:I}#{a{a{...on Query{a{a}}}}}":                             10,
		"type Query{a:I}interface I{a:I}#{a{a{__typename}}}":                                                 0,
		"type Query{a:I}interface I{a:I}#{a{a{...on I{__typename}}}}":                                        11,
		"type Query{a:I}interface I{a:I}#{a{...on Query{__typename}}}":                                       11,
		"type Query{E:E}enum E{Query}#{E}":                                                                   0,
		"type Query{E:E}enum E{Query}#{E{Query}}":                                                            9,
		"type Query{a:A b:B}interface N{n:N}interface M implements N{n:N}type A implements N{n:N}type B implements M&N{n:N}#{a{...on N{...on M{n{__typename}}}}}": 0,
		"type Query{a:A b:B}interface N{n:N}interface M implements N{n:N}type A implements N{n:N}type B implements M&N{n:N}#{a{...on M{n{__typename}}}}":          11,
	} {
		schema, document, _ := strings.Cut(text, "#")
		s, d := sound(t, schema), read(t, document)
		if got := first(s, d); got != want {
			t.Errorf("%s breaks rule %d", text, got)
		}
		judged(t, s, d, want)
	}
}
