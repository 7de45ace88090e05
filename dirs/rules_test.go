package dirs_test

import (
	"fmt"
	"math"
	"slices"
	"strings"
	"testing"

	"seine/api"
	"seine/dirs"
	"seine/every"
	"seine/fields"
	"seine/graph"
	"seine/print"
)

// specified reports whether what is told of d is specified at all: whether it is
// Right and satisfies the rules from 1 to 11.
func specified(s api.Schema, d api.Doc) bool {
	for n := 1; n <= 11; n++ {
		if !graph.Rule(s, d, n) && !fields.Rule(s, d, n) {
			return false
		}
	}
	return print.Right(d)
}

// turned is l the other way round, and so are the lists within it.
func turned(l []api.Sel) []api.Sel {
	var out []api.Sel
	for _, x := range slices.Backward(l) {
		x.Sels, x.Dirs = turned(x.Sels), back(x.Dirs)
		out = append(out, x)
	}
	return out
}

// back is l the other way round.
func back(l []api.Dir) []api.Dir {
	l = slices.Clone(l)
	slices.Reverse(l)
	return l
}

// reversed is d the other way round.
func reversed(d api.Doc) api.Doc {
	var out api.Doc
	for _, op := range slices.Backward(d.Ops) {
		op.Sels, op.Dirs = turned(op.Sels), back(op.Dirs)
		out.Ops = append(out.Ops, op)
	}
	for _, f := range slices.Backward(d.Frags) {
		f.Sels, f.Dirs = turned(f.Sels), back(f.Dirs)
		out.Frags = append(out.Frags, f)
	}
	return out
}

// judged holds what is told of d, by each rule up to the first one that it does
// not keep, whichever way round it stands; what is told of further rules is
// unspecified.
func judged(t *testing.T, s api.Schema, d api.Doc, first int) {
	t.Helper()
	if !specified(s, d) {
		t.Fatalf("%.600s: nothing is specified", show(d))
	}
	for _, x := range []api.Doc{d, reversed(d)} {
		for n := 12; n <= 14 && (first == 0 || n <= first); n++ {
			if got := dirs.Rule(s, x, n); got != (n != first) {
				t.Fatalf("Rule(%.600s, %d) = %v", show(x), n, got)
			}
		}
	}
}

// show tells a document as it is written, if it can be.
func show(d api.Doc) string {
	if text, ok := print.Text(d); ok {
		return text
	}
	return fmt.Sprintf("%+v", d)
}

// hosts are documents with places for directives: a `#` stands where they would be
// those of an operation itself or of a fragment itself, a `@` where they would be
// those of a selection.
func hosts() []string {
	return []string{
		"{a@}",
		"query#{a@}",
		"mutation#{a@}",
		"query Q($v:Boolean)#{d(x:1)@ x:d(if:$v)@}",
		"{b@{a@}c@{b@{a@}}}",
		"{...@{a@}...on Query@{a@}b@{...@{...@{...on Query@{a@}}}}}",
		"{...F@}fragment F on Query#{a@}",
		"query A#{a@}query B#{a@}mutation C#{a@}query D#{b@{a@}}",
		"{...F@...G@...H@}fragment F on Query#{a@}fragment G on Query#{a@}fragment H on Query#{x:a@}",
		"mutation A#{b@{...F@}n@{id@...on A@{a@}}}query B#{...@{...G@}}fragment F on Query#{b@{a@}...G@}fragment G on Query#{u@{__typename@...on A@{n@{...H@}}}}fragment H on N#{id@}",
		"{skip@ include:skip@ ...skip@}fragment skip on Query#{skip:a@ ...include@}fragment include on Query#{include:b@{a@}}",
	}
}

// filled is the host with texts at its places.
func filled(host string, texts map[int]string) string {
	out := ""
	k := 0
	for _, r := range host {
		if r != '#' && r != '@' {
			out += string(r)
			continue
		}
		out += texts[k]
		k++
	}
	return out
}

// places are the marks of a host's places, one a byte.
func places(host string) string {
	return strings.Map(func(r rune) rune {
		if r == '#' || r == '@' {
			return r
		}
		return -1
	}, host)
}

// written are directives of the names, with this or that list of arguments; where
// the mark is that of an operation or a fragment, without variables.
func written(turn int, mark byte, l ...string) string {
	lists := []string{"", "(if:true)", "(if:false)", "(if:true)", "(if:null if:1)", `(other:"skip")`, "(if:[{a:1}])", "(if:$v)", "(if:$w)"}
	if mark == '#' {
		lists = lists[:7]
	}
	out := ""
	for k, name := range l {
		out += "@" + name + lists[(turn+k*(turn/len(lists)))%len(lists)]
	}
	return out
}

// told is the first rule that a list of directives of these names does not keep,
// where the mark stands; 0 if it keeps all.
func told(mark byte, l []string) int {
	for _, name := range l {
		if name != "skip" && name != "include" {
			return 12
		}
	}
	if mark == '#' && len(l) > 0 {
		return 13
	}
	if len(l) > len(slices.Compact(slices.Sorted(slices.Values(l)))) {
		return 14
	}
	return 0
}

// P15.1: in each place of each host every list of up to four directives, some of them of other names.
func TestEveryPlace(t *testing.T) {
	s := sound(t, world)
	turn := 0
	for _, host := range hosts() {
		judged(t, s, read(t, filled(host, nil)), 0)
		marks := places(host)
		for k := range marks {
			for l := range every.List(4, names("skip include other Skip")...) {
				turn++
				d := read(t, filled(host, map[int]string{k: written(turn, marks[k], l...)}))
				judged(t, s, d, told(marks[k], l))
			}
		}
	}
}

// least is the least of the numbers other than 0; 0 if there is none.
func least(l ...int) int {
	out := 0
	for _, n := range l {
		if out == 0 || n != 0 && n < out {
			out = n
		}
	}
	return out
}

// P15.1: in each two places of each host every two lists of up to two directives; the same name in both of them keeps the rules.
func TestEveryTwoPlaces(t *testing.T) {
	s := sound(t, world)
	lists := [][]string{{"x"}}
	for l := range every.List(2, names("skip include")...) {
		if len(l) > 0 {
			lists = append(lists, slices.Clone(l))
		}
	}
	turn := 0
	for _, host := range hosts() {
		marks := places(host)
		for k := range marks {
			for j := range k {
				for _, one := range lists {
					for _, two := range lists {
						turn++
						d := read(t, filled(host, map[int]string{k: written(turn, marks[k], one...), j: written(turn/3, marks[j], two...)}))
						judged(t, s, d, least(told(marks[k], one), told(marks[j], two)))
					}
				}
			}
		}
	}
}

// P15.1: all places of a host have the same directives.
func TestAllPlaces(t *testing.T) {
	s := sound(t, world)
	for _, host := range hosts() {
		for l := range every.List(3, names("skip include no")...) {
			texts, outer := map[int]string{}, map[int]string{}
			var first []int
			for k, mark := range []byte(places(host)) {
				texts[k] = written(k, mark, l...)
				first = append(first, told(mark, l))
				if mark == '@' {
					outer[k] = texts[k]
				}
			}
			judged(t, s, read(t, filled(host, texts)), least(first...))
			judged(t, s, read(t, filled(host, outer)), told('@', l))
		}
	}
}

// P15.1: names of directives that there are none of break rule 12, wherever they stand.
func TestOtherNames(t *testing.T) {
	s := sound(t, world)
	for _, name := range names("x Skip SKIP skips ski Include INCLUDE includes includ if Boolean deprecated column link get do on query mutation fragment true null a Query skipinclude _skip skip_ skip1 __skip") {
		for _, host := range hosts() {
			for k, mark := range []byte(places(host)) {
				for _, l := range [][]string{{name}, {"skip", name}, {name, "include"}, {name, name}, {"skip", "skip", name}, {"include", name, "skip"}} {
					judged(t, s, read(t, filled(host, map[int]string{k: written(k, mark, l...)})), 12)
				}
			}
		}
	}
}

// P15.1: documents, with the first rule that each does not keep.
func TestTexts(t *testing.T) {
	s := sound(t, world)
	for text, first := range map[string]int{
		"{a@skip(if:true)@skip(if:true)}":                  14,
		"{a@skip(if:true)@skip(if:false)}":                 14,
		"{a@skip(if:true)@skip(if:$v)}":                    14,
		"{a@skip@skip}":                                    14,
		"{a@skip@include@skip}":                            14,
		"{a@include(if:true)@skip(if:true)@skip(if:true)}": 14,
		"{a@include@include@include}":                      14,
		"{a@skip(if:true)}":                                0,
		"{a@skip(if:true)@include(if:true)}":               0,
		"{a@include(if:true)@skip(if:true)}":               0,
		"{a@skip a@skip}":                                  0,
		"{a@skip b@skip{a@skip}...@skip{a@skip}...F@skip}fragment F on Query{a@skip}": 0,
		"{a@skip(skip:1 skip:2)}":                0,
		"{a@skip(if:{skip:1 include:2})}":        0,
		"{a b{a@skip@skip}}":                     14,
		"{b@skip{a@include@include}}":            14,
		"{...@skip@skip{a}}":                     14,
		"{...on Query@include@skip@include{a}}":  14,
		"{...F@skip@skip}fragment F on Query{a}": 14,
		"{...F}fragment F on Query{a@skip@skip}": 14,
		"{a@x}":                                  12,
		"{b@x{a}}":                               12,
		"{b{a@x}}":                               12,
		"{...@x{a}}":                             12,
		"{b{...on Query{...on Query@x{a}}}}":     12,
		"{...F@x}fragment F on Query{a}":         12,
		"{b{...F@x}}fragment F on Query{a}":      12,
		"{...F}fragment F on Query{a@x}":         12,
		"query@x{a}":                             12,
		"query A{a}query B@x{a}":                 12,
		"mutation@x{a}":                          12,
		"{...F}fragment F on Query@x{a}":         12,
		"{a@skip@skip@x}":                        12,
		"query@skip{a@x}":                        12,
		"query@skip(if:true){a}":                 13,
		"query@skip@skip{a}":                     13,
		"mutation@include(if:true){a}":           13,
		"query A{a}query B{a}query C@skip{a}":    13,
		"query A@skip{a}query B{a}query C{a}":    13,
		"{...F...G}fragment F on Query{a}fragment G on Query@include{a}": 13,
		"{...F...G}fragment F on Query@include{a}fragment G on Query{a}": 13,
		"query A@skip{a@skip@skip}":                                      13,
		"query A($v:Boolean!=true){a@skip(if:$v)}":                       0,
		"query A($v:Boolean!=true)@skip(if:true){a}":                     13,
		"{d(if:true)}":         0,
		"{skip@skip}":          0,
		"{a n{n{id}}}":         0,
		"{skip:a a:a b{skip}}": 0,
	} {
		judged(t, s, read(t, text), first)
	}
}

// P15.1: each rule has a document that breaks just it.
func TestJustOne(t *testing.T) {
	s := sound(t, world)
	for n, texts := range map[int][]string{
		12: {"{a@x}", "{b{...@x{a}}}", "{...F@x@skip}fragment F on Query{a}", "{...F}fragment F on Query{b{a@y@x}}"},
		13: {"query@skip(if:true){a}", "query A{a}mutation B@skip@include{a}", "{...F}fragment F on Query@include{a}"},
		14: {"{a@skip@skip}", "{b{...@include@skip@include{a}}}", "{...F}fragment F on Query{...G@skip@skip}fragment G on Query{a}"},
	} {
		for _, text := range texts {
			d := read(t, text)
			judged(t, s, d, n)
			if got := broken(d); !slices.Equal(got, []int{n}) {
				t.Errorf("%s breaks the rules %v", text, got)
			}
		}
	}
}

// P15.1: what a schema says matters to none of the rules.
func TestSchemasDoNotMatter(t *testing.T) {
	for _, text := range []string{"type Query{a:Int}type Mutation{a:Int}", "type Query{a(skip:Int):Int @skip(if:true) @skip @x}type Mutation{a:Int @include}", "schema{query:skip mutation:include}type skip{a:Int}type include{a:Int}"} {
		s := sound(t, text)
		for sels, first := range map[string]int{"a": 0, "a@skip": 0, "a@skip@skip": 14, "a@x": 12, "...@include{a@include}": 0, "...@include@include{a}": 14} {
			for _, kind := range names("query mutation") {
				judged(t, s, read(t, kind+"{"+sels+"}"), first)
				judged(t, s, read(t, kind+"@skip{"+sels+"}"), least(13, first))
			}
		}
	}
}

// P15.1: there are no rules but 12 to 14.
func TestNumbers(t *testing.T) {
	s := sound(t, world)
	numbers := []int{-12, -13, -14, 256 + 12, 256 + 13, 1<<32 + 12, 1<<32 + 13, 1<<32 + 14, -1<<32 + 14, math.MaxInt, math.MinInt, math.MinInt + 12}
	for n := -3; n < 40; n++ {
		if n < 12 || n > 14 {
			numbers = append(numbers, n)
		}
	}
	for _, text := range []string{"{a}", "{a@skip}", "{a@x}", "query@skip{a}", "{a@skip@skip}", "{...F}fragment F on Query{a}"} {
		for _, d := range []api.Doc{{}, read(t, text)} {
			for _, n := range numbers {
				if dirs.Rule(s, d, n) {
					t.Errorf("%s satisfies rule %d", show(d), n)
				}
			}
		}
	}
}
