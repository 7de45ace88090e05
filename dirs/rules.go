package dirs

import (
	"slices"

	"seine/api"
	"seine/graph"
)

// Rule reports whether d satisfies rule n of documents, if it is Right and
// satisfies all rules with smaller numbers, and s is sound; false if n is not from
// 12 to 14.
func Rule(s api.Schema, d api.Doc, n int) bool {
	switch n {
	case 12:
		return areDefined(d)
	case 13:
		return !slices.ContainsFunc(wholes(d), isDirected)
	case 14:
		return occurOnce(d)
	}
	return false
}

// wholes returns each operation and each fragment of d as a selection that has the
// directives and the selections of it.
func wholes(d api.Doc) []api.Sel {
	var out []api.Sel
	for _, op := range d.Ops {
		out = append(out, api.Sel{Dirs: op.Dirs, Sels: op.Sels})
	}
	for _, f := range d.Frags {
		out = append(out, api.Sel{Dirs: f.Dirs, Sels: f.Sels})
	}
	return out
}

// areDefined is rule 12.
func areDefined(d api.Doc) bool {
	defined := true
traversal:
	for x := range graph.Each(wholes(d)...) {
		for _, dir := range x.Dirs {
			if _, defined = Param(dir.Name); !defined {
				break traversal
			}
		}
	}
	return defined
}

func isDirected(x api.Sel) bool { return len(x.Dirs) > 0 }

// occurOnce is rule 14.
func occurOnce(d api.Doc) bool {
	once := true
traversal:
	for x := range graph.Each(wholes(d)...) {
		seen := map[string]bool{}
		for _, dir := range x.Dirs {
			if seen[dir.Name] {
				once = false
				break traversal
			}
			seen[dir.Name] = true
		}
	}
	return once
}
