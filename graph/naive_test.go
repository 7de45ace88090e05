package graph_test

import (
	"slices"
	"testing"

	"seine/api"
	"seine/defs"
	"seine/every"
	"seine/graph"
)

// firstOf returns the first fragment of d with this name, if there is one.
func firstOf(d api.Doc, name string) (api.Frag, bool) {
	k := slices.IndexFunc(d.Frags, func(f api.Frag) bool { return f.Name == name })
	if k < 0 {
		return api.Frag{}, false
	}
	return d.Frags[k], true
}

// reachable tells plainly what l reaches: names are added till none is new.
func reachable(d api.Doc, l []api.Sel) []string {
	found := once(plainly(l))
	for k := 0; k < len(found); k++ {
		f, _ := firstOf(d, found[k])
		found = once(append(found, plainly(f.Sels)...))
	}
	var out []string
	for _, f := range d.Frags {
		if slices.Contains(found, f.Name) {
			out = append(out, f.Name)
		}
	}
	return once(out)
}

// loops tells plainly whether d loops.
func loops(d api.Doc) bool {
	return slices.ContainsFunc(d.Frags, func(f api.Frag) bool {
		return slices.Contains(reachable(d, f.Sels), f.Name)
	})
}

// agree holds what is told of d against what is told plainly, and P13.3: what is
// reachable from what is reachable.
func agree(t *testing.T, d api.Doc, from ...[]api.Sel) {
	t.Helper()
	if got := graph.Loops(d); got != loops(d) {
		t.Fatalf("Loops(%+v) = %v", d, got)
	}
	for _, l := range from {
		got := graph.Reach(d, l...)
		same(t, d, got, reachable(d, l))
		for _, name := range got {
			f, ok := graph.Frag(d, name)
			if !ok {
				t.Fatalf("%+v: %q is reachable, but there is none", d, name)
			}
			for _, further := range graph.Reach(d, f.Sels...) {
				if !slices.Contains(got, further) {
					t.Fatalf("%+v: of %q, %q is reachable, but not of %+v", d, name, further, l)
				}
			}
		}
	}
}

// choices are fragments with each of the names, each with each of the Spreads.
func choices(all []string, l ...[]string) []api.Frag {
	var out []api.Frag
	for _, name := range all {
		for _, to := range l {
			out = append(out, frag(name, spreads(to...)...))
		}
	}
	return out
}

// subsets are all choices of the names.
func subsets(l ...string) [][]string {
	out := [][]string{nil}
	for _, name := range l {
		for _, x := range out {
			out = append(out, append(slices.Clip(x), name))
		}
	}
	return out
}

// P13.1, P13.3: every document of up to three fragments with three names, and of up to four with two.
func TestEveryDocument(t *testing.T) {
	var from [][]api.Sel
	for _, l := range subsets("A", "B", "C") {
		from = append(from, spreads(l...))
	}
	sound := 0
	for l := range every.List(3, choices(names("A B C"), subsets("A", "B", "C")...)...) {
		agree(t, of(l...), from...)
		if !loops(of(l...)) {
			sound++
		}
	}
	if sound < 1000 || sound > 10000 {
		t.Errorf("%d documents do not loop", sound)
	}
	for l := range every.List(4, choices(names("A B"), subsets("A", "B", "Z")...)...) {
		agree(t, of(l...), from[:4]...)
	}
}

// P13.1, P13.3: every document of four fragments with different names, whichever way round.
func TestEveryFourFragments(t *testing.T) {
	all := subsets("A", "B", "C", "D")
	for k := range 1 << 16 {
		var l []api.Frag
		for j, name := range names("A B C D") {
			l = append(l, frag(name, spreads(all[k>>(4*j)&15]...)...))
		}
		turn := k % 4
		d := of(append(slices.Clone(l[turn:]), l[:turn]...)...)
		agree(t, d, spreads("A"), spreads("D", "B"))
	}
}

// P13.1: a second fragment of each Name, with each choice of Spreads.
func TestEverySecondFragment(t *testing.T) {
	all := subsets("A", "B", "C")
	for k := range 1 << 15 {
		var l []api.Frag
		for j, name := range names("A B C A B") {
			l = append(l, frag(name, spreads(all[k>>(3*j)&7]...)...))
		}
		d := of(l...)
		if got := graph.Loops(d); got != loops(d) {
			t.Fatalf("Loops(%+v) = %v", d, got)
		}
	}
}

// within returns all selections of l, and those within them.
func within(l []api.Sel) []api.Sel {
	var out []api.Sel
	for _, x := range l {
		out = append(append(out, x), within(x.Sels)...)
	}
	return out
}

// broken returns the rules of 1 to 8 that d does not keep, as they are told
// plainly.
func broken(s api.Schema, d api.Doc) []int {
	var ops, frags, used, named []string
	var in []api.Sel
	composite, mutations := true, 0
	for _, op := range d.Ops {
		ops = append(ops, op.Name)
		in = append(in, within(op.Sels)...)
		mutations += op.Kind // there are no other Kinds than 0 and 1
		used = append(used, reachable(d, op.Sels)...)
	}
	for _, f := range d.Frags {
		frags = append(frags, f.Name)
		in = append(in, within(f.Sels)...)
		composite = composite && defs.Composite(s, f.On)
	}
	for _, x := range in {
		switch {
		case x.Kind == api.Inline:
			composite = composite && (x.On == "" || defs.Composite(s, x.On))
		case x.Kind == api.Spread:
			named = append(named, x.Name)
		}
	}
	nameless := slices.Contains(ops, "")
	unique := slices.DeleteFunc(slices.Clone(ops), func(name string) bool { return name == "" })
	kept := []bool{
		len(once(unique)) == len(unique),
		len(ops) > 0 && !(nameless && len(ops) > 1),
		mutations == 0 || s.Mutation != "",
		len(once(frags)) == len(frags),
		composite,
		!slices.ContainsFunc(named, func(name string) bool { return !slices.Contains(frags, name) }),
		!loops(d),
		!slices.ContainsFunc(frags, func(name string) bool { return !slices.Contains(used, name) }),
	}
	var out []int
	for k, is := range kept {
		if !is {
			out = append(out, k+1)
		}
	}
	return out
}
