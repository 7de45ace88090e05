package graph

import (
	"slices"

	"seine/api"
	"seine/defs"
)

// Rule reports whether d satisfies rule n of documents, if it is Right and
// satisfies all rules with smaller numbers, and s is sound; false if n is not
// from 1 to 8.
func Rule(s api.Schema, d api.Doc, n int) bool {
	switch n {
	case 1:
		return operationsDiffer(d)
	case 2:
		return operationsCanBeChosen(d)
	case 3:
		return s.Mutation != "" || !slices.ContainsFunc(d.Ops, isMutation)
	case 4:
		return len(firsts(d)) == len(d.Frags)
	case 5:
		return typesAreComposite(s, d)
	case 6:
		return spreadsAreNamed(d)
	case 7:
		return !Loops(d)
	case 8:
		return len(Reach(d, asked(d)...)) == len(d.Frags)
	}
	return false
}

// operationsDiffer is rule 1.
func operationsDiffer(d api.Doc) bool {
	seen := map[string]bool{}
	for _, op := range d.Ops {
		if op.Name != "" && seen[op.Name] {
			return false
		}
		seen[op.Name] = true
	}
	return true
}

// operationsCanBeChosen is rule 2.
func operationsCanBeChosen(d api.Doc) bool {
	return len(d.Ops) == 1 || len(d.Ops) > 1 && !slices.ContainsFunc(d.Ops, isNameless)
}

func isNameless(op api.Op) bool { return op.Name == "" }

func isMutation(op api.Op) bool { return op.Kind == api.Mutation }

// typesAreComposite is rule 5.
func typesAreComposite(s api.Schema, d api.Doc) bool {
	for _, f := range d.Frags {
		if !defs.Composite(s, f.On) {
			return false
		}
	}
	for x := range Each(outermost(d)...) {
		if x.Kind == api.Inline && x.On != "" && !defs.Composite(s, x.On) {
			return false
		}
	}
	return true
}

// spreadsAreNamed is rule 6.
func spreadsAreNamed(d api.Doc) bool {
	first := firsts(d)
	for _, name := range Spreads(outermost(d)...) {
		if _, found := first[name]; !found {
			return false
		}
	}
	return true
}

// asked returns the outermost selections of all operations.
func asked(d api.Doc) []api.Sel {
	var out []api.Sel
	for _, op := range d.Ops {
		out = append(out, op.Sels...)
	}
	return out
}

// outermost returns the outermost selections of all operations and fragments.
func outermost(d api.Doc) []api.Sel {
	out := asked(d)
	for _, f := range d.Frags {
		out = append(out, f.Sels...)
	}
	return out
}
