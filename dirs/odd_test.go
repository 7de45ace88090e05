package dirs_test

import (
	"fmt"
	"math"
	"slices"
	"strings"
	"testing"

	"seine/api"
	"seine/dirs"
	"seine/every"
)

// asks asks each rule, of whatever: what is told is nobody's matter, but it is
// told, and the same each time.
func asks(t *testing.T, s api.Schema, d api.Doc) {
	t.Helper()
	for n := 10; n < 17; n++ {
		got := dirs.Rule(s, d, n)
		if got != dirs.Rule(s, d, n) || got && (n < 12 || n > 14) {
			t.Fatalf("Rule(%.600s, %d) is told in two ways, or there is none", show(d), n)
		}
	}
}

// noKinds are numbers of which there is no Kind of anything.
func noKinds() []int {
	return []int{-1, 6, 7, 256, 257, 258, 1 << 32, 1<<32 + 1, 1<<32 + 2, math.MaxInt, math.MinInt, math.MinInt + 1}
}

// odds are selections of any Kind with any name and with any directives, which have
// this value as an argument, some with others within them.
func odds(v api.Value) []api.Sel {
	var out []api.Sel
	for _, kind := range append(noKinds(), 0, 1, 2, 3) {
		for _, name := range []string{"skip", "include", "a", "", "\xff"} {
			dir := api.Dir{Name: name, Args: []api.Member{{Name: name, V: v}, {}}}
			x := api.Sel{Kind: kind, Name: name, Alias: name, On: name, Args: dir.Args, Dirs: []api.Dir{dir}}
			full := x
			full.Dirs = []api.Dir{dir, {}, dir, {Name: "skip"}}
			full.Sels = []api.Sel{x, spread("A", x), field("a", x, inline("", x)), {}}
			out = append(out, x, full)
		}
	}
	return out
}

// R1, R8: documents that are not Right, or break rules with smaller numbers, by schemas that are not sound.
func TestAnything(t *testing.T) {
	deep := api.Value{Kind: api.Text, S: "\xff"}
	for range 2000 {
		deep = api.Value{Kind: api.List, L: []api.Value{deep}}
	}
	l := odds(deep)
	kinds := append(noKinds(), 0, 1, 2)
	for k, s := range []api.Schema{{}, {Query: "A"}, {Mutation: "A", Defs: []api.Def{{}, {Kind: -1, Name: "A", Fields: []api.FieldDef{{}}}}}, sound(t, world)} {
		asks(t, s, api.Doc{})
		for j, x := range l {
			kind := kinds[(j+k)%len(kinds)]
			one, other := []api.Sel{x}, []api.Sel{l[(j+k)%len(l)], x}
			asks(t, s, api.Doc{Ops: []api.Op{{Kind: kind, Sels: one, Dirs: x.Dirs}, {Kind: kind, Name: "A", Sels: other}, {}}})
			asks(t, s, api.Doc{Frags: []api.Frag{{Name: x.Name, On: x.Name, Sels: other}, {Name: "A", On: "A", Dirs: x.Dirs, Sels: one}, {Name: x.Name}}})
		}
		asks(t, s, api.Doc{Ops: []api.Op{{Sels: l}, {Kind: 1, Sels: l}}, Frags: []api.Frag{{Sels: l}, {On: "A", Sels: l}, {Name: "A", On: "\xff", Sels: l}}})
	}
}

// R1: every short list of odd selections.
func TestOddLists(t *testing.T) {
	l := []api.Sel{{}, {Kind: -1}, {Kind: 3, Dirs: []api.Dir{{}}}, spread("A", with(field("a"), api.Dir{Name: "skip"}, api.Dir{Name: "skip"})), with(spread(""), api.Dir{Name: "x"}), with(inline(""), api.Dir{Name: "\x00"}, api.Dir{Name: "include"}), field("", inline("A"))}
	for few := range every.List(3, l...) {
		few = slices.Clone(few)
		asks(t, api.Schema{}, api.Doc{Ops: []api.Op{{Sels: few}}})
		asks(t, api.Schema{}, api.Doc{Frags: []api.Frag{{Sels: few}, {Dirs: []api.Dir{{}}, Sels: few}}})
	}
}

// nested is l within so many selections like x.
func nested(n int, x api.Sel, l ...api.Sel) []api.Sel {
	for range n {
		x.Sels = l
		l = []api.Sel{x}
	}
	return l
}

// R1: selections as deep as there may be any, of each Kind.
func TestDeep(t *testing.T) {
	s := sound(t, world)
	for _, x := range []api.Sel{field("b"), field("none"), with(field("b"), api.Dir{Name: "skip"}), inline(""), inline("Query"), with(inline("X"), api.Dir{Name: "include"}, api.Dir{Name: "include"}), spread("A"), spread(""), {Kind: 3, Name: "b", On: "Query"}, {Kind: math.MinInt}} {
		for _, end := range []api.Sel{field("a"), with(field("a"), api.Dir{Name: "x"}), with(field("a"), api.Dir{Name: "skip"}, api.Dir{Name: "skip"})} {
			l := nested(1<<16, x, end, field("a"))
			asks(t, s, api.Doc{Ops: []api.Op{{Sels: l}}})
			asks(t, api.Schema{}, api.Doc{Frags: []api.Frag{{Name: "A", On: "Query", Sels: l}}})
		}
	}
}

// P15.1: selections as deep as a document that is Right may have them; the innermost ones decide.
func TestDeepest(t *testing.T) {
	s := sound(t, world)
	skip := api.Dir{Name: "skip"}
	ways := [][]api.Sel{{field("b")}, {inline("")}, {with(inline("Query"), skip)}, {inline(""), with(field("c"), skip)}, {field("b"), with(inline(""), api.Dir{Name: "include"}, skip), inline("Query")}}
	for text, want := range map[string]int{"a": 0, "a@skip": 0, "a@x": 12, "a@skip@skip": 14, "...A": 0, "...A@x": 12, "...A@skip@include@skip": 14, "...@x{a}": 12, "...{a@include@include}": 14} {
		for _, way := range ways {
			l := read(t, "{"+text+"}").Ops[0].Sels
			for k := range api.MaxDeep - 1 - strings.Count(text, "{") {
				l = nested(1, way[k%len(way)], l...)
			}
			d := api.Doc{Ops: []api.Op{{Sels: l}}}
			if strings.Contains(text, "...A") {
				d.Frags = read(t, "fragment A on Query{a}").Frags
			}
			judged(t, s, d, want)
			d.Ops[0].Dirs = []api.Dir{skip}
			judged(t, s, d, least(13, want))
			d.Ops[0].Sels = nested(1, way[0], l...)
			if specified(s, d) {
				t.Errorf("%s may stand still deeper", text)
			}
			asks(t, s, d)
		}
	}
}

// number is the name of a fragment.
func number(k int) string { return fmt.Sprint("f", k) }

// R1, P15.1: documents of many parts, one of which decides.
func TestMany(t *testing.T) {
	s := sound(t, world)
	const n = 1500
	both := []api.Dir{{Name: "include"}, {Name: "skip"}}
	var d api.Doc
	for k := range n {
		d.Frags = append(d.Frags, api.Frag{Name: number(k), On: "Query", Sels: []api.Sel{with(field("a"), both...), spread(number(k + 1))}})
		d.Ops = append(d.Ops, api.Op{Name: number(k), Kind: k % 2, Sels: []api.Sel{with(field("b", with(inline("", spread(number(k))), both...)), both...)}})
	}
	d.Frags[n-1].Sels = d.Frags[n-1].Sels[:1]
	judged(t, s, d, 0)
	for _, at := range []*[]api.Dir{&d.Ops[0].Sels[0].Dirs, &d.Ops[n-1].Sels[0].Sels[0].Dirs, &d.Ops[n/2].Sels[0].Sels[0].Sels[0].Dirs, &d.Frags[0].Sels[0].Dirs, &d.Frags[n-1].Sels[0].Dirs} {
		was := *at
		for text, want := range map[string]int{"@skip": 0, "": 0, "@skip@include@skip": 14, "@include@include": 14, "@skip@no": 12} {
			*at = read(t, "{a"+text+"}").Ops[0].Sels[0].Dirs
			judged(t, s, d, want)
		}
		*at = was
	}
	for _, at := range []*[]api.Dir{&d.Ops[0].Dirs, &d.Ops[n-1].Dirs, &d.Frags[0].Dirs, &d.Frags[n-1].Dirs} {
		*at = both[:1]
		judged(t, s, d, 13)
		*at = []api.Dir{{Name: "no"}}
		judged(t, s, d, 12)
		*at = nil
	}
	judged(t, s, d, 0)
}

// R1, P15.1: many directives at one selection, and many selections in one list.
func TestManyDirectives(t *testing.T) {
	s := sound(t, world)
	l := slices.Repeat([]api.Dir{{Name: "skip"}}, 1<<16)
	d := api.Doc{Ops: []api.Op{{Sels: []api.Sel{with(field("a"), l...)}}}}
	judged(t, s, d, 14)
	l[1<<15].Name = "Skip"
	judged(t, s, d, 12)
	for k := range l {
		l[k].Name = number(k)
	}
	judged(t, s, d, 12)
	asks(t, s, d)
	sels := slices.Repeat([]api.Sel{with(field("a"), api.Dir{Name: "skip"}), with(inline("", field("a")), api.Dir{Name: "include"})}, 1<<15)
	d.Ops[0].Sels = sels
	judged(t, s, d, 0)
	sels[1<<15].Dirs = []api.Dir{{Name: "skip"}, {Name: "skip"}}
	judged(t, s, d, 14)
	sels[len(sels)-1].Dirs = []api.Dir{{Name: "on"}}
	judged(t, s, d, 12)
}

// R1, P15.1: names of any length.
func TestLongNames(t *testing.T) {
	s := sound(t, world)
	long := strings.Repeat("skip", 1<<18)
	for _, name := range []string{long, "skip" + long, long + "include"} {
		judged(t, s, api.Doc{Ops: []api.Op{{Sels: []api.Sel{with(field("a"), api.Dir{Name: "skip"}, api.Dir{Name: name})}}}}, 12)
	}
	judged(t, s, api.Doc{Ops: []api.Op{{Sels: []api.Sel{with(field("a"), api.Dir{Name: long[:4], Args: []api.Member{{Name: long}}})}}}}, 0)
	judged(t, s, api.Doc{Ops: []api.Op{{Sels: []api.Sel{with(field("a"), api.Dir{Name: long[:4]}, api.Dir{Name: long[4:8]})}}}}, 14)
}
