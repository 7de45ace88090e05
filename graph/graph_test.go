package graph_test

import (
	"fmt"
	"slices"
	"strings"
	"testing"

	"seine/api"
	"seine/every"
	"seine/graph"
	"seine/parse"
)

// read reads a document.
func read(t *testing.T, text string) api.Doc {
	t.Helper()
	d, e := parse.Read(text)
	if e != api.OK {
		t.Fatalf("%s is not read: %d", text, e)
	}
	return d
}

// sels reads selections, as they are written between brackets.
func sels(t *testing.T, text string) []api.Sel {
	t.Helper()
	if text == "" {
		return nil
	}
	return read(t, "{"+text+"}").Ops[0].Sels
}

func names(s string) []string { return strings.Fields(s) }

func field(name string, l ...api.Sel) api.Sel {
	return api.Sel{Kind: api.Field, Name: name, Sels: l}
}

func spread(name string, l ...api.Sel) api.Sel {
	return api.Sel{Kind: api.Spread, Name: name, Sels: l}
}

func inline(on string, l ...api.Sel) api.Sel {
	return api.Sel{Kind: api.Inline, On: on, Sels: l}
}

// spreads are Spreads of the names.
func spreads(l ...string) []api.Sel {
	var out []api.Sel
	for _, name := range l {
		out = append(out, spread(name))
	}
	return out
}

func frag(name string, l ...api.Sel) api.Frag { return api.Frag{Name: name, On: "Query", Sels: l} }

func of(l ...api.Frag) api.Doc { return api.Doc{Frags: l} }

// same holds names against others; a nil list and an empty one are equal. One that
// is told wrong is enough: there are many like it.
func same(t *testing.T, what any, got, want []string) {
	t.Helper()
	if !slices.Equal(got, want) {
		t.Fatalf("%.600s: %q, want %q", fmt.Sprintf("%+v", what), got, want)
	}
}

// walked tells each selection of l and of those within it, by its Kind and Name.
func walked(l []api.Sel) []string {
	var out []string
	for _, x := range l {
		out = append(append(out, fmt.Sprint(x.Kind, x.Name, x.On, len(x.Sels))), walked(x.Sels)...)
	}
	return out
}

// P13.1: all selections of lists that are three deep, in order, whatever their Kind; as often as they are asked for, and no further than they are.
func TestEach(t *testing.T) {
	ends := []api.Sel{field("a"), spread("b"), {Kind: 5, Name: "c"}}
	for few := range every.List(2, ends...) {
		few = slices.Clone(few)
		for l := range every.List(3, field("d", few...), inline("E", few...), spread("f", field("g", few...)), api.Sel{Kind: 5, Sels: few}) {
			want := walked(l)
			all := graph.Each(l...)
			for most := range len(want) + 2 {
				var got []string
				for x := range all {
					got = append(got, walked([]api.Sel{x})[0])
					if len(got) == most {
						break
					}
				}
				if most == 0 {
					most = len(want)
				}
				same(t, l, got, want[:min(most, len(want))])
			}
		}
	}
}

// P13.1: the Spreads of what is written.
func TestSpreads(t *testing.T) {
	for text, want := range map[string]string{
		"":                             "",
		"a":                            "",
		"A B:A C{A}":                   "",
		"...{a} ...on A{b}":            "",
		"...A":                         "A",
		"...A ...B":                    "A B",
		"...B ...A":                    "B A",
		"...A ...A":                    "A",
		"...B ...A ...B ...C ...A":     "B A C",
		"...a ...A ...aA ...Aa":        "a A aA Aa",
		"a{...A}":                      "A",
		"...{...A}":                    "A",
		"...on T{...A}":                "A",
		"a ...A b":                     "A",
		"a{...A} ...B":                 "A B",
		"...B a{...A}":                 "B A",
		"...A ...on A{...A}":           "A",
		"a{b{c{...A}...B}...C}...D":    "A B C D",
		"...D a{...C b{...B c{...A}}}": "D C B A",
		"a{...B}...{...A}b{...{...B}}...{c{...C ...A}}":                    "B A C",
		"...{...{...{...{...A}...B}...A}...C}...B":                         "A B C",
		"a{b ...{c}}...on A{d{...on B{e ...Z}}}f":                          "Z",
		"...A@skip(if:true) a@include(if:$v){...B@d}...@x{...C}":           "A B C",
		"a(x:A y:[B] z:{C:D})@E{...F}":                                     "F",
		"...query ...fragment ...true ...null ...__typename":               "query fragment true null __typename",
		"a{...A}a{...A}b:a{...A}":                                          "A",
		"a{b{...A}}a{c{...B}}a{b{...A ...C}}":                              "A B C",
		"...{a}...A ...{b}...B ...{...on B{...B}}...on Query{a}...C d{e}f": "A B C",
	} {
		same(t, text, graph.Spreads(sels(t, text)...), names(want))
	}
}

// P13.1: selections within a Spread, and within others of whatever Kind; names of any kind.
func TestSpreadsOfAnything(t *testing.T) {
	same(t, "a Spread in a Spread", graph.Spreads(spread("A", spread("B"))), names("A B"))
	same(t, "one that has itself", graph.Spreads(spread("A", spread("A"), spread("B", spread("A")))), names("A B"))
	same(t, "several", graph.Spreads(spread("B", field("x", spread("A"))), spread("C", inline("", spread("B", spread("D")))), spread("E")), names("B A C D E"))
	same(t, "the empty name", graph.Spreads(spread(""), spread("A"), spread("", spread("B"))), []string{"", "A", "B"})
	same(t, "any bytes", graph.Spreads(spread("\xff"), spread("\x00"), spread("a b"), spread("\xff")), []string{"\xff", "\x00", "a b"})
	same(t, "none", graph.Spreads(), nil)
	same(t, "none again", graph.Spreads([]api.Sel{}...), nil)
	for _, kind := range []int{-1, 0, 2, 3, 4, 256, 257, 1<<32 + 1, -1 << 63} {
		x := api.Sel{Kind: kind, Name: "A", Alias: "B", On: "C"}
		same(t, x, graph.Spreads(x), nil)
		x.Sels = spreads("D", "A")
		same(t, x, graph.Spreads(x, x), names("D A"))
	}
	same(t, "what does not belong to a Spread", graph.Spreads(api.Sel{Kind: api.Spread, Name: "A", Alias: "B", On: "C", Args: []api.Member{{Name: "D"}}, Dirs: []api.Dir{{Name: "E"}}}), names("A"))
}

// plainly returns the names of all Spreads of l, as often as there are any.
func plainly(l []api.Sel) []string {
	var out []string
	for _, x := range l {
		if x.Kind == api.Spread {
			out = append(out, x.Name)
		}
		out = append(out, plainly(x.Sels)...)
	}
	return out
}

// once returns each of the names once.
func once(l []string) []string {
	var out []string
	for k, name := range l {
		if !slices.Contains(l[:k], name) {
			out = append(out, name)
		}
	}
	return out
}

// shapes are selections of each Kind, each with each of the lists within it.
func shapes(lists ...[]api.Sel) []api.Sel {
	var out []api.Sel
	for _, l := range lists {
		out = append(out, field("A", l...), spread("A", l...), spread("B", l...), inline("A", l...), api.Sel{Kind: 3, Name: "C", Sels: l})
	}
	return out
}

// all are copies of what is yielded.
func all(most int, items ...api.Sel) [][]api.Sel {
	var out [][]api.Sel
	for l := range every.List(most, items...) {
		out = append(out, slices.Clone(l))
	}
	return out
}

// P13.1: every two selections with up to two within each, and every one with one with two within it.
func TestEverySpreads(t *testing.T) {
	single := shapes(nil)
	double := shapes(all(2, single...)...)
	for _, l := range append(all(2, double...), all(1, shapes(all(1, double...)...)...)...) {
		same(t, l, graph.Spreads(l...), once(plainly(l)))
	}
}

// P13.1: the first fragment of a Name; R2: nothing beside false.
func TestFrag(t *testing.T) {
	empty := fmt.Sprintf("%+v", api.Frag{})
	asked := append(names("A B a AA on"), "", "\xff")
	for l := range every.List(4, append(names("A B a"), "")...) {
		var d api.Doc
		for k, name := range l {
			d.Frags = append(d.Frags, api.Frag{Name: name, On: fmt.Sprint("T", k), Sels: spreads("A")})
		}
		d.Ops = []api.Op{{Name: "AA"}, {Name: "\xff"}}
		for _, name := range asked {
			f, ok := graph.Frag(d, name)
			at := slices.Index(l, name)
			switch {
			case at < 0 && (ok || fmt.Sprintf("%+v", f) != empty):
				t.Fatalf("Frag(%q) of %q = %+v, %v", name, l, f, ok)
			case at >= 0 && (!ok || fmt.Sprintf("%+v", f) != fmt.Sprintf("%+v", d.Frags[at])):
				t.Fatalf("Frag(%q) of %q = %+v, %v", name, l, f, ok)
			}
		}
	}
}

// P13.1: a fragment is returned with all that it has.
func TestWholeFrag(t *testing.T) {
	d := read(t, "fragment B on U{b} fragment A on T @d(x:1 y:[{z:E}]) @e {a:b(c:$d)@f{...B}} fragment A on V{...A} {...A}")
	for k, name := range names("B A") {
		got, ok := graph.Frag(d, name)
		if want := fmt.Sprintf("%+v", d.Frags[k]); !ok || fmt.Sprintf("%+v", got) != want {
			t.Errorf("Frag(%s) = %+v, %v, want %s", name, got, ok, want)
		}
	}
	odd := api.Frag{Name: "", Dirs: []api.Dir{{}, {Args: []api.Member{{}}}}, Sels: []api.Sel{{Kind: -1, Sels: []api.Sel{{}}}}}
	got, ok := graph.Frag(of(frag("A"), odd), "")
	if want := fmt.Sprintf("%+v", odd); !ok || fmt.Sprintf("%+v", got) != want {
		t.Errorf("%+v, %v, want %s", got, ok, want)
	}
}

// A told is a document with what is reachable from selections, and whether it
// loops.
type told struct {
	from, frags, reached string
	loops                bool
}

func documents() []told {
	return []told{
		{"", "", "", false}, {"a", "", "", false}, {"...A", "", "", false},
		{"a", "A{b}", "", false}, {"A{A}", "A{A}", "", false}, {"...on A{a}", "A{b}", "", false},
		{"...A", "A{b}", "A", false}, {"a{...A}", "A{b}", "A", false}, {"...{b{...A}}", "A{b}", "A", false}, {"...A ...A", "A{b}", "A", false},
		{"...B", "A{b}", "", false}, {"...a", "A{b}", "", false}, {"...AA ...Z", "A{b}", "", false},
		{"...B ...A", "A{a} B{a}", "A B", false}, {"...B ...A", "B{a} A{a}", "B A", false}, {"...B", "A{a} B{a}", "B", false}, {"...Z ...B ...Y", "A{...Z} B{a}", "B", false},
		{"...A", "A{...B} B{...C} C{a}", "A B C", false}, {"...A", "C{a} B{...C} A{...B}", "C B A", false}, {"...A", "B{...C} A{...B} C{a}", "B A C", false}, {"...B", "A{...B} B{...C} C{a}", "B C", false}, {"...C", "A{...B} B{...C} C{a}", "C", false},
		{"...A", "A{...B ...C} B{...D} C{...D} D{a} E{...A}", "A B C D", false}, {"...D ...B", "A{...B ...C} B{...D} C{...D} D{a} E{...A}", "B D", false}, {"...E", "A{...B ...C} B{...D} C{...D} D{a} E{...A}", "A B C D E", false},
		{"...A", "A{...Z} Z1{a}", "A", false}, {"...A", "A{...Z ...B} B{...Z}", "A B", false},
		{"a", "A{...A}", "", true}, {"...A", "A{...A}", "A", true}, {"...A", "A{a{...A}}", "A", true}, {"...A", "A{...{...on T{a{...A}}}}", "A", true}, {"...B", "A{...A} B{a}", "B", true}, {"...B", "B{...A} A{b ...A}", "B A", true},
		{"a", "A{...B} B{...A}", "", true}, {"...A", "A{...B} B{...A}", "A B", true}, {"...B", "A{a{...B}} B{...{...A}}", "A B", true},
		{"...C", "A{...B} B{...C} C{...A}", "A B C", true}, {"...D", "D{...C} C{...B} B{...C} A{a}", "D C B", true}, {"...A", "A{...B} B{...C} C{...D} D{...E} E{...B}", "A B C D E", true}, {"...A", "A{...B ...C} B{a} C{...D} D{...B ...A}", "A B C D", true}, {"...B", "A{a} B{...C} C{...D} D{...E} E{...F} F{...B} G{...A}", "B C D E F", true},
		{"...A", "A{a} A{...B} B{a}", "A", false}, {"...A", "A{...B} A{a} B{a}", "A B", false}, {"...A ...B", "A{a} B{a} A{...B}", "A B", false}, {"...B ...A", "B{a} A{a} B{a} A{b} B{c}", "B A", false}, {"...C", "A{a} B{...A} A{...C} C{...B}", "A B C", true},
		{"a", "A{a} A{...A}", "", true}, {"...A", "A{a} A{...A}", "A", true}, {"a", "A{...A} A{a}", "", true}, {"a", "A{...B} B{...B}", "", true}, {"a", "A{a} A{...B} B{...A}", "", true}, {"a", "A{a} B{a} A{...B} B{...A}", "", false}, {"...A ...B", "A{a} B{...A} A{...B}", "A B", true}, {"a", "A{a} B{...A} A{b} A{c{...B}}", "", true}, {"a", "A{a} A{...B} B{a} B{...A}", "", false}, {"a", "A{...B} B{a} B{...A}", "", true}, {"a", "A{...C} A{...B} B{a} C{...B}", "", false},
		{"a", "A{a} B{...C} C{a} A{...C} C{...A} B{...A}", "", false}, {"a", "A{a} B{...C} C{a} A{...C} C{...B} B{...A}", "", true},
	}
}

// document reads fragments that are written with their names and selections alone.
func document(t *testing.T, text string) api.Doc {
	t.Helper()
	var d api.Doc
	for text != "" {
		name, rest, _ := strings.Cut(text, "{")
		end := slices.Index(depths(rest), 0)
		d.Frags = append(d.Frags, api.Frag{Name: strings.TrimSpace(name), On: "T", Sels: sels(t, rest[:end])})
		text = rest[end+1:]
	}
	return d
}

// depths are how many brackets are open behind each byte, of a text that follows one.
func depths(text string) []int {
	var out []int
	deep := 1
	for _, b := range []byte(text) {
		deep += strings.Count("{", string(b)) - strings.Count("}", string(b))
		out = append(out, deep)
	}
	return out
}

// P13.1: what is reachable, and what loops, as it is written out.
func TestReach(t *testing.T) {
	for _, x := range documents() {
		d := document(t, x.frags)
		same(t, x, graph.Reach(d, sels(t, x.from)...), names(x.reached))
		if graph.Loops(d) != x.loops {
			t.Errorf("Loops of %s: %v", x.frags, !x.loops)
		}
		d.Ops = read(t, "query A{...B}query B{...A}mutation{...C ...D}").Ops
		same(t, x, graph.Reach(d, sels(t, x.from)...), names(x.reached))
		if graph.Loops(d) != x.loops {
			t.Errorf("Loops of %s, with operations: %v", x.frags, !x.loops)
		}
	}
}

// P13.1: names that no text has.
func TestReachByAnyName(t *testing.T) {
	for _, name := range []string{"", "\xff", "a b", "on", "\x00"} {
		for _, other := range []string{"", "\xff", "a b", "on", "\x00", "A"} {
			if name == other {
				continue
			}
			d := of(frag(other, field("a")), frag(name, spread(other)))
			same(t, d, graph.Reach(d, spread(name)), []string{other, name})
			same(t, d, graph.Reach(d, spread(other)), []string{other})
			same(t, d, graph.Reach(d, field(name), inline(name), api.Sel{Kind: 3, Name: name}), nil)
			same(t, d, graph.Reach(of(frag(other)), spread(name)), nil)
			d.Frags[0].Sels = []api.Sel{spread("B", inline("", spread(name)))}
			if graph.Loops(of(frag(other), frag(name, spread(other)))) || !graph.Loops(d) || !graph.Loops(of(frag(name), frag(name, spread(name)))) {
				t.Errorf("Loops of %q and %q is told wrong", name, other)
			}
		}
	}
	same(t, "of no document", graph.Reach(api.Doc{}, spread("")), nil)
	same(t, "of no selections", graph.Reach(of(frag("", spread("")))), nil)
}
