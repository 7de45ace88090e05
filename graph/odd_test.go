package graph_test

import (
	"fmt"
	"math"
	"slices"
	"strings"
	"testing"

	"seine/api"
	"seine/every"
	"seine/graph"
	"seine/value"
)

// asks asks each rule, of whatever: what is told is nobody's matter, but it is
// told, and the same each time.
func asks(t *testing.T, s api.Schema, d api.Doc) {
	t.Helper()
	for n := -2; n < 12; n++ {
		got := graph.Rule(s, d, n)
		if got != graph.Rule(s, d, n) || got && (n < 1 || n > 8) {
			t.Fatalf("Rule(%+v, %d) is told in two ways, or there is none", d, n)
		}
	}
}

// R1, R8: documents that are not Right, of schemas that are not sound.
func TestAnything(t *testing.T) {
	numbers := []int{0, 1, 2, 3, -1, 256, 1<<32 + 1, math.MaxInt, math.MinInt}
	deep := value.Text("x")
	for range 2000 {
		deep = api.Value{Kind: api.List, L: []api.Value{deep, deep}[:1]}
	}
	var l []api.Sel
	for _, kind := range numbers {
		for _, name := range append(names("A B"), "", "\xff") {
			l = append(l, api.Sel{Kind: kind, Name: name, Alias: name, On: name, Args: []api.Member{{Name: name, V: deep}}, Dirs: []api.Dir{{Name: name}}, Sels: spreads("B", name)})
		}
	}
	var frags []api.Frag
	for k, x := range l {
		frags = append(frags, api.Frag{Name: l[len(l)-1-k].Name, On: x.Name, Sels: []api.Sel{x}})
	}
	for two := range every.List(2, frags...) {
		d := api.Doc{Frags: two}
		agree(t, d, nil, l[:5], l)
		asks(t, api.Schema{}, d)
		for _, kind := range numbers {
			d.Ops = []api.Op{{Kind: kind, Name: "A", Sels: l[:3]}, {}, {Kind: kind, Sels: l}}
			for _, mutation := range append(names("A B"), "") {
				s := api.Schema{Query: "A", Mutation: mutation, Defs: []api.Def{{Kind: kind, Name: "A"}, {Kind: 1, Name: ""}, {Kind: kind}, {Kind: 3, Name: "\xff", Parts: names("A")}}}
				asks(t, s, d)
			}
		}
	}
	asks(t, api.Schema{}, api.Doc{})
	agree(t, api.Doc{}, nil, l)
}

// number is the name of a fragment.
func number(k int) string { return fmt.Sprint("f", k) }

// chain is n fragments, each of which spreads the next one, and the last one what
// is given.
func chain(n int, last ...api.Sel) api.Doc {
	var d api.Doc
	for k := range n - 1 {
		d.Frags = append(d.Frags, frag(number(k), spread(number(k+1))))
	}
	d.Frags = append(d.Frags, frag(number(n-1), last...))
	return d
}

// holds wants that so many fragments are reachable, and the first ones of them in
// order, whichever way round the document stands.
func holds(t *testing.T, what string, d api.Doc, l []api.Sel, reached int, loop bool) {
	t.Helper()
	for _, x := range []api.Doc{d, reversed(d)} {
		var want []string
		for _, f := range x.Frags {
			want = append(want, f.Name)
		}
		got := graph.Reach(x, l...)
		if len(got) != reached || reached == len(want) && !slices.Equal(got, want) {
			t.Fatalf("of %s, %d are reachable, not %d", what, len(got), reached)
		}
		if graph.Loops(x) != loop {
			t.Fatalf("Loops of %s: %v", what, !loop)
		}
	}
}

const many = 30000

// R1: ways through many fragments.
func TestManyFragments(t *testing.T) {
	start := spreads(number(0))
	holds(t, "a chain", chain(many, field("a")), start, many, false)
	holds(t, "a chain from its middle", chain(many), spreads(number(many/2), "x", number(many-3)), many/2, false)
	holds(t, "a ring", chain(many, spread(number(0))), start, many, true)
	holds(t, "a chain to a small ring", chain(many, spread(number(many-1))), start, many, true)
	holds(t, "a chain with a way back", chain(many, field("a", spread(number(many-2)))), nil, 0, true)
	star, single := chain(many), chain(many)
	for k := range many {
		single.Frags[k].Sels = []api.Sel{field("a"), spread("x")}
		star.Frags[k].Sels = nil
		star.Frags[0].Sels = append(star.Frags[0].Sels, spread(number((k+many/2)%many)))
	}
	holds(t, "fragments that lead nowhere", single, start, 1, false)
	star.Frags[0].Sels = slices.DeleteFunc(star.Frags[0].Sels, func(x api.Sel) bool { return x.Name == number(0) })
	holds(t, "a star", star, start, many, false)
	star.Frags[many/2].Sels = start
	holds(t, "a star with a way back", star, spreads(number(many/2)), many, true)
}

// R1: many ways between few fragments.
func TestManyWays(t *testing.T) {
	const n = 500
	d := chain(n)
	for k := range n {
		d.Frags[k].Sels = nil
		for j := k + 1; j < n; j++ {
			d.Frags[k].Sels = append(d.Frags[k].Sels, spread(number(j)))
		}
	}
	holds(t, "all ways onwards", d, spreads(number(0)), n, false)
	holds(t, "all ways onwards, from one behind", d, spreads(number(7)), n-7, false)
	d.Frags[n-1].Sels = spreads(number(0))
	holds(t, "all ways onwards and one back", d, spreads(number(n-1)), n, true)
	d.Frags[n-1].Sels = slices.Repeat(spreads(number(n-2), "x"), many)
	holds(t, "one way back, many times", d, spreads(number(n-1)), 2, true)
}

// R1: many fragments of one Name, and many of each of many.
func TestManyOfOneName(t *testing.T) {
	var d api.Doc
	for range many {
		d.Frags = append(d.Frags, frag("A", spread("B")))
	}
	d.Frags = append(d.Frags, frag("B"))
	told := func(what string, want bool) {
		t.Helper()
		same(t, what, graph.Reach(d, spread("A")), names("A B"))
		if graph.Loops(d) != want || graph.Rule(api.Schema{}, d, 4) {
			t.Errorf("%s: Loops is told %v, or rule 4 kept", what, !want)
		}
	}
	told("many of one Name", false)
	d.Frags[many-1].Sels = spreads("B", "A")
	told("many of one Name, the last of which loops", true)
	d = chain(2000)
	twice := api.Doc{Frags: append(slices.Clone(d.Frags), d.Frags...)}
	got := graph.Reach(twice, spread(number(0)))
	if len(got) != 2000 || got[0] != number(0) || got[1999] != number(1999) || graph.Loops(twice) {
		t.Errorf("of a chain that is there twice, %d are reachable, or it loops", len(got))
	}
	twice.Frags[len(twice.Frags)-1].Sels = spreads(number(1999))
	if !graph.Loops(twice) || graph.Loops(api.Doc{Frags: twice.Frags[:len(twice.Frags)-1]}) {
		t.Error("the last of a chain that is there twice loops")
	}
}

// R1: selections as deep and as many as there may be any.
func TestDeepSelections(t *testing.T) {
	for kind := range 4 {
		l := []api.Sel{spread("B")}
		for range 1 << 16 {
			l = []api.Sel{{Kind: kind, Name: "C", Sels: l}, spread("A")}
		}
		want := names("B A")
		if kind == api.Spread {
			want = names("C B A")
		}
		same(t, kind, graph.Spreads(l...), want)
		d := of(frag("A"), frag("B", l[:1]...))
		same(t, kind, graph.Reach(d, l...), names("A B"))
		if !graph.Loops(d) || graph.Loops(of(frag("A", l...))) != true || graph.Loops(of(frag("D", l...))) {
			t.Errorf("Loops of deep selections of the Kind %d is told wrong", kind)
		}
		d.Ops = []api.Op{{Sels: l}}
		asks(t, sound(t), d)
	}
	wide := slices.Repeat([]api.Sel{field("a"), inline("", spread("A")), spread("A")}, many)
	same(t, "many", graph.Spreads(append(wide, spread("B"))...), names("A B"))
	long := strings.Repeat("x", 1<<20)
	same(t, "long", graph.Reach(of(frag(long+"y"), frag(long, spread(long+"z"))), spread(long)), []string{long})
}

// P13.2, R1: rules of a document of many parts, one of which decides.
func TestManyParts(t *testing.T) {
	s := sound(t)
	const n = 20000
	d := chain(n, field("a"))
	for k := range n {
		d.Ops = append(d.Ops, api.Op{Name: number(k), Sels: []api.Sel{field("b", inline("T", spread(number(k)))), inline("", field("a"))}})
	}
	judged(t, s, d, 0)
	d.Ops[n-1].Kind = api.Mutation
	judged(t, bare(s), d, 3)
	d.Ops[n-1] = api.Op{Sels: spreads(number(0))}
	judged(t, s, d, 2)
	d.Ops = d.Ops[n-1:]
	judged(t, s, d, 0)
	last := &d.Frags[n-1]
	d.Frags = append(d.Frags, frag("more", field("a")))
	judged(t, s, d, 8)
	last = &d.Frags[n-1]
	last.Sels = spreads(number(n / 2))
	judged(t, s, d, 7)
	last.Sels = spreads("nowhere")
	judged(t, s, d, 6)
	last.Sels = []api.Sel{inline("E", field("a"))}
	judged(t, s, d, 5)
	last.Name = number(0)
	judged(t, s, d, 4)
}
