package graph_test

import (
	"math"
	"reflect"
	"slices"
	"strings"
	"testing"

	"seine/api"
	"seine/every"
	"seine/graph"
	"seine/print"
	"seine/schema"
	"seine/sdl"
)

// sound is a schema with a type of each kind.
func sound(t *testing.T) api.Schema {
	t.Helper()
	s, e := sdl.Read("type Query{a(x:I):Int b:Query n:N u:U e:E} type Mutation{p:Int} interface N{a:Int} type T implements N{a:Int b:Query} union U=T|Query enum E{X Query} input I{a:Int}")
	if e != api.OK || schema.Check(s) != 0 {
		t.Fatalf("the schema is not sound: %d", e)
	}
	return s
}

// bare is s without a Mutation.
func bare(s api.Schema) api.Schema {
	s.Mutation = ""
	return s
}

// reversed is d the other way round.
func reversed(d api.Doc) api.Doc {
	d.Ops, d.Frags = slices.Clone(d.Ops), slices.Clone(d.Frags)
	slices.Reverse(d.Ops)
	slices.Reverse(d.Frags)
	return d
}

// judged holds what is told of d, by each rule up to the first one that it does
// not keep, whichever way round it stands; what is told of further rules is
// unspecified.
func judged(t *testing.T, s api.Schema, d api.Doc, first int) {
	t.Helper()
	if !print.Right(d) {
		t.Fatalf("%+v is not Right", d)
	}
	for _, x := range []api.Doc{d, reversed(d)} {
		for n := 1; n <= 8 && (first == 0 || n <= first); n++ {
			if got := graph.Rule(s, x, n); got != (n != first) {
				text, _ := print.Text(x)
				t.Fatalf("Rule(%s, %d) = %v", text, n, got)
			}
		}
	}
}

// first is the first rule that d does not keep, as it is told plainly.
func first(s api.Schema, d api.Doc) int { return append(broken(s, d), 0)[0] }

// kept are documents that keep all rules from 1 to 8.
func kept() []string {
	return []string{
		"{a}", "query{a}", "query Q{a}", "mutation{p}", "mutation M{p}", "query Q{a}query R{a}mutation M{p}", "query Q{a}query q{a}query QQ{a}", "query Query{a}query Mutation{a}query E{a}",
		"{...A}fragment A on Query{a}", "fragment A on Query{a}{...A}", "query A{...A}fragment A on Query{a}", "{...{...A}}fragment A on T{a}", "{b{b{...on N{...A}}}}fragment A on N{a}", "mutation{...A}fragment A on Mutation{p}",
		"{...A ...A}fragment A on U{__typename}", "{...on Query{a}...on T{a}...on N{a}...on U{__typename}...on Mutation{p}...{a}}", "{b{...on Query{b{...{b{...on U{...on T{a}}}}}}}}",
		"{...A}fragment A on Query{...B}fragment B on Query{...C}fragment C on T{a}", "{...A}fragment C on Query{a}fragment A on Query{...B ...C}fragment B on Query{...C}", "{b{...A}...B}fragment A on Query{b{...C}}fragment B on Query{...{...C}}fragment C on Query{b{...D}}fragment D on Query{a}",
		"query Q{...A}query R{...B}fragment A on Query{a}fragment B on Query{a}", "query Q{a}query R{...B}mutation M{...C}fragment A on Query{a}fragment B on Query{...A}fragment C on Mutation{p}", "query Q{...A}query R{...A}fragment A on Query{a}", "query Q{...A ...B}query R{...B}fragment B on Query{a}fragment A on Query{...B}",
		"{...a ...A ...AA}fragment A on Query{a}fragment a on Query{a}fragment AA on Query{a}", "{A:a ...Query}fragment Query on T{a}", "{a(x:{b:E})@d(E:I)...A@e}fragment A on Query@f{a}", "{...query}fragment query on Query{...fragment}fragment fragment on Query{a}",
		"{nowhere{...A}}fragment A on Query{x{y}...on Query{z}}",
	}
}

// breaks are, for each rule, documents that keep all others. Where there is a `$`,
// the schema has no Mutation.
func breaks() [][]string {
	return [][]string{
		{"query A{a}query A{b}", "query A{a}mutation A{p}", "mutation A{p}mutation A{p}", "query A{a}query B{a}query A{a}", "query B{a}query A{a}query A{a}query C{a}", "query A{a}query A{a}query A{a}", "query A{...A}query A{...B}fragment A on T{a}fragment B on T{a}", "query __a{a}query b{a}query __a{a}"},
		{"{a}{b}", "{a}query B{b}", "query B{b}{a}", "mutation{p}query{a}", "{a}query A{a}query B{b}", "query A{a}{a}query B{b}", "query A{a}mutation B{p}mutation{p}", "{a}{a}{a}", "{...A}{...A}fragment A on T{a}"},
		{"$mutation{p}", "$mutation A{p}", "$query A{a}mutation B{p}", "$mutation B{p}query A{a}query C{a}", "$query A{a}query C{a}mutation B{p}", "$mutation A{p}mutation B{p}", "$mutation{...A}fragment A on T{a}"},
		{"{...F}fragment F on T{a}fragment F on T{a}", "{...F}fragment F on T{a}fragment F on N{b}", "{...F ...G}fragment F on T{a}fragment G on T{a}fragment F on T{a}", "{...G}fragment G on T{...F}fragment F on T{a}fragment F on T{b}", "{...F}fragment F on T{a}fragment F on T{a}fragment F on T{a}", "{...E ...F ...G}fragment E on T{a}fragment F on T{a}fragment G on T{a}fragment E on T{a}"},
		{"{...on E{a}}", "{...on I{a}}", "{...on Int{a}}", "{...on ID{a}}", "{...on String{a}}", "{...on Boolean{a}}", "{...on X{a}}", "{...on a{a}}", "{...on query{a}}", "{...on t{a}}", "{...on __Type{a}}", "{...on on{a}}", "{b{...{...on E{a}}}}", "{a ...{a}b{b{b{a ...on I{a}}}}}", "query A{a}query B{...on X{a}}", "mutation{...on E{a}}", "{...on T{...on E{a}}}", "{...on E{...on T{a}}}", "{a ...on T{a}...on X{a}b}",
			"{...F}fragment F on E{a}", "{...F}fragment F on I{a}", "{...F}fragment F on Int{a}", "{...F}fragment F on X{a}", "{...F}fragment F on F{a}", "{...F ...G}fragment F on T{a}fragment G on E{a}", "{...F ...G}fragment F on X{a}fragment G on T{a}", "{...F}fragment F on T{b{...on E{a}}}", "{...F ...G}fragment F on T{a}fragment G on T{...{b{...on X{a}}}}", "{...F}fragment F on T{...on E{...G}}fragment G on T{a}"},
		{"{...F}", "{a ...F}", "{b{...F}}", "{b{...{...F}}}", "{...on T{b{...F}}}", "query A{a}query B{...F}", "query F{...F}", "mutation{...Mutation}", "{...T}", "{...a a}", "{...F}fragment F on T{...G}", "{...F}fragment F on T{b{...{...G}}}", "{...F ...f}fragment F on T{a}", "{...F ...FF}fragment F on T{a}", "{...F ...G}fragment F on T{...G}fragment G on T{a b{...H}}", "{...H ...F}fragment F on T{a}", "{...F}fragment F on T{a ...T}"},
		{"{...F}fragment F on T{...F}", "{...F}fragment F on T{a b{...F}}", "{...F}fragment F on T{...{...on T{...F}}}", "{...F}fragment F on T{...G}fragment G on T{...F}", "{...F}fragment G on T{b{...F}}fragment F on T{...{...G}}", "{...F}fragment F on T{...G}fragment G on T{...H}fragment H on T{a ...F}", "{...F}fragment F on T{...G}fragment G on T{...H}fragment H on T{...G}", "query A{...F}query B{...G}fragment F on T{a}fragment G on T{...G}", "{...F ...G}fragment F on T{a ...H}fragment G on T{...F ...H}fragment H on T{b{...J}}fragment J on T{...{...F}}"},
		{"{a}fragment F on T{a}", "{F}fragment F on T{a}", "query F{...G}fragment G on T{a}fragment F on T{a}", "{...F}fragment F on T{a}fragment G on T{...F}", "{...F}fragment G on T{a}fragment F on T{a}", "{...F}fragment F on T{...H}fragment G on T{...H}fragment H on T{a}", "{a}fragment F on T{...G}fragment G on T{a}", "query A{a}query B{...F}fragment F on T{a}fragment f on T{...F}", "{...F}fragment F on T{...G}fragment G on T{a}fragment H on T{...F}fragment J on T{...H}", "{a}fragment A on T{a}fragment B on T{b}fragment C on T{c}"},
	}
}

// P13.2: documents that keep all rules, also those that name what there is none of.
func TestKept(t *testing.T) {
	s := sound(t)
	for _, text := range kept() {
		d := read(t, text)
		if l := broken(s, d); l != nil {
			t.Errorf("%s breaks the rules %v", text, l)
		}
		judged(t, s, d, 0)
		if !strings.Contains(text, "utation") {
			judged(t, bare(s), d, 0)
		}
	}
}

// P13.2: for each rule, documents that break just this one.
func TestBroken(t *testing.T) {
	for k, l := range breaks() {
		for _, text := range l {
			s := sound(t)
			if strings.HasPrefix(text, "$") {
				s = bare(s)
			}
			d := read(t, strings.TrimPrefix(text, "$"))
			if l := broken(s, d); !slices.Equal(l, []int{k + 1}) {
				t.Errorf("%s breaks the rules %v", text, l)
			}
			judged(t, s, d, k+1)
		}
	}
}

// P13.2: of several rules that are broken, the first one counts.
func TestSeveralBroken(t *testing.T) {
	for text, want := range map[string]int{
		"query A{a}query A{a}{a}": 1, "query A{...A}query A{...A}{...A}": 1, "query A{a}query A{a}fragment F on E{...F}fragment F on T{a}": 1,
		"fragment F on T{a}": 2, "fragment F on E{...F}fragment F on T{...G}": 2, "{a}{...X}": 2, "{a}query A{...on E{a}}": 2,
		"{a}fragment F on E{a}fragment F on T{a}": 4, "{...G}fragment F on T{...F}fragment F on T{a}": 4,
		"{...on E{...F}}": 5, "{...F}fragment F on E{...F}": 5, "{a}fragment F on T{...on X{a}...G}": 5,
		"{...F ...G}fragment F on T{...F}": 6, "{a}fragment F on T{...G}": 6, "{a}fragment F on T{...F ...G}": 6,
		"{a}fragment F on T{...F}": 7, "{...G}fragment F on T{...F}fragment G on T{a}": 7, "{a}fragment F on T{...G}fragment G on T{...F}": 7,
	} {
		s, d := sound(t), read(t, text)
		if l := broken(s, d); len(l) < 2 || l[0] != want {
			t.Errorf("%s breaks the rules %v", text, l)
		}
		judged(t, s, d, want)
	}
	d := read(t, "mutation{...on E{a}}fragment F on T{a}fragment F on T{...F}")
	judged(t, bare(sound(t)), d, 3)
	judged(t, sound(t), d, 4)
}

// P13.2: each name as the type of a fragment and of an Inline.
func TestTypes(t *testing.T) {
	s := sound(t)
	for name, composite := range map[string]bool{
		"Query": true, "Mutation": true, "N": true, "T": true, "U": true,
		"E": false, "I": false, "Int": false, "String": false, "Boolean": false, "ID": false,
		"Float": false, "X": false, "a": false, "p": false, "n": false, "t": false, "query": false, "TT": false, "__typename": false, "on": false, "null": false, "A": false,
	} {
		for _, s := range []api.Schema{s, bare(s)} {
			for _, text := range []string{"{...on #{a}}", "{b{...{...on #{a}}}}", "{...on T{...on #{a}}}", "{...on #{...on T{a}}}", "{...A}fragment A on #{a}", "{...A ...B}fragment B on T{a}fragment A on #{a}", "{...A}fragment A on T{b{...on #{a}}}", "query Q{a}query R{a ...on T{a}...on #{a}}"} {
				want := 5
				if composite {
					want = 0
				}
				judged(t, s, read(t, strings.ReplaceAll(text, "#", name)), want)
			}
		}
	}
}

// P13.2: there are no rules but 1 to 8.
func TestNumbers(t *testing.T) {
	s := sound(t)
	var l []api.Doc
	for _, text := range append(kept(), "{...A}fragment A on T{...A}") {
		l = append(l, read(t, text))
	}
	for _, n := range []int{0, -1, 9, 10, 11, 12, 16, 24, 25, -8, 257, 1<<32 + 1, math.MaxInt, math.MinInt} {
		for _, d := range append(l, api.Doc{}) {
			if graph.Rule(s, d, n) || graph.Rule(api.Schema{}, d, n) {
				t.Errorf("there is a rule %d", n)
			}
		}
	}
}

// P13.2: every document of up to two operations and up to three fragments of some.
func TestEveryRule(t *testing.T) {
	ops := read(t, "{a}query{...A}query Q{b{...B}}query Q{...{...A}...B}query R{...on T{...C}}mutation M{...A}mutation{...Z}").Ops
	frags := read(t, "fragment A on Query{a}fragment A on T{...B}fragment A on N{b{...A}}fragment B on U{...on Query{...C}}fragment B on E{...A}fragment C on T{...{a}}fragment C on Query{...A ...on I{a}}fragment C on Query{b{...B}}").Frags
	s := sound(t)
	counts := map[int]int{}
	for l := range every.List(2, ops...) {
		for k := range every.List(3, frags...) {
			if len(l)+len(k) == 0 {
				continue
			}
			d := api.Doc{Ops: l, Frags: k}
			for _, s := range []api.Schema{s, bare(s)} {
				want := first(s, d)
				counts[want]++
				judged(t, s, d, want)
			}
		}
	}
	for n := range 9 {
		if counts[n] < 50 {
			t.Errorf("of the documents, only %d are told %d", counts[n], n)
		}
	}
}

// parts returns v and all parts of it, which can be set.
func parts(v reflect.Value) []reflect.Value {
	out := []reflect.Value{v}
	switch v.Kind() {
	case reflect.Slice:
		for k := range v.Len() {
			out = append(out, parts(v.Index(k))...)
		}
	case reflect.Struct:
		for k := range v.NumField() {
			out = append(out, parts(v.Field(k))...)
		}
	}
	return out
}

// instead returns what may stand at the place of a part.
func instead(v reflect.Value) []any {
	switch x := v.Interface().(type) {
	case string:
		return []any{"", "A", "B", "C", "Q", "Query", "T", "N", "U", "E", "I", "Int", "X", "on", "a", "\xff"}
	case int:
		return []any{-1, 0, 1, 2, 3, 1 << 40, -1 << 63}
	case api.Sel:
		return []any{api.Sel{}, spread("A"), spread("B"), spread("C"), spread("Z"), inline("T", x), inline("E", x), field("a", x), field("b", x, spread("A")), spread("A", x)}
	case api.Frag:
		return []any{api.Frag{}, frag("A", field("a")), frag("B", spread("C")), frag("C", spread("B")), frag("D", field("a")), api.Frag{Name: "A", On: "E", Sels: x.Sels}}
	case api.Op:
		return []any{api.Op{}, api.Op{Sels: spreads("A")}, api.Op{Name: "Q", Sels: spreads("C")}, api.Op{Kind: api.Mutation, Name: "M", Sels: x.Sels}}
	}
	if v.Kind() != reflect.Slice {
		return nil
	}
	n := v.Len()
	zero := reflect.Append(v.Slice3(0, n, n), reflect.Zero(v.Type().Elem()))
	out := []any{reflect.MakeSlice(v.Type(), 0, 2).Interface(), zero.Interface(), reflect.AppendSlice(v.Slice3(0, n, n), v).Interface()}
	if n > 0 {
		out = append(out, v.Slice(1, n).Interface(), v.Slice(0, n-1).Interface())
	}
	return out
}

// P13.1, P13.2: a document with each part replaced by each of many; R8: also where it is not Right, what is reachable is told.
func TestReplacedParts(t *testing.T) {
	s := sound(t)
	d := read(t, "query Q($v:Int=1)@d{a@skip(if:true)b{...A@e ...on N{...B}}}query R{...{...C}...A}mutation M{...D}fragment A on Query@f(x:1){a ...{b{...B}}}fragment B on N{...on T{...C}}fragment C on U{__typename}fragment D on Mutation{p(x:[1]){...on T{...A ...C}}}")
	judged(t, s, d, 0)
	counts := map[int]int{}
	for _, part := range parts(reflect.ValueOf(&d).Elem()) {
		was := reflect.New(part.Type()).Elem()
		was.Set(part)
		for _, x := range instead(was) {
			part.Set(reflect.ValueOf(x))
			for _, op := range d.Ops {
				agree(t, d, op.Sels)
			}
			for n := -1; n < 10; n++ {
				graph.Rule(s, d, n)
			}
			if print.Right(d) {
				want := first(s, d)
				counts[want]++
				judged(t, s, d, want)
			}
		}
		part.Set(was)
	}
	for n := range 9 {
		if n != 3 && counts[n] < 5 {
			t.Errorf("%d documents are told %d", counts[n], n)
		}
	}
	judged(t, s, d, 0)
}
