package dirs_test

import (
	"slices"

	"seine/api"
)

// within are the lists of directives of l and of the selections within it.
func within(l []api.Sel) [][]api.Dir {
	var out [][]api.Dir
	for _, x := range l {
		out = append(append(out, x.Dirs), within(x.Sels)...)
	}
	return out
}

// broken returns the rules from 12 to 14 that d does not keep, in ascending order.
func broken(d api.Doc) []int {
	var own, lists [][]api.Dir
	for _, op := range d.Ops {
		own, lists = append(own, op.Dirs), append(lists, within(op.Sels)...)
	}
	for _, f := range d.Frags {
		own, lists = append(own, f.Dirs), append(lists, within(f.Sels)...)
	}
	rules := map[int]bool{}
	for _, l := range own {
		if len(l) > 0 {
			rules[13] = true
		}
	}
	for _, l := range append(own, lists...) {
		for k, dir := range l {
			if dir.Name != "skip" && dir.Name != "include" {
				rules[12] = true
			}
			for _, other := range l[:k] {
				if other.Name == dir.Name {
					rules[14] = true
				}
			}
		}
	}
	var out []int
	for n := range rules {
		out = append(out, n)
	}
	slices.Sort(out)
	return out
}

// first is the first rule that d does not keep; 0 if there is none.
func first(d api.Doc) int { return append(broken(d), 0)[0] }
