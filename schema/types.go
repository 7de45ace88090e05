package schema

import (
	"iter"

	"seine/api"
	"seine/defs"
)

// operationsAreObjects is rule 2.
func operationsAreObjects(s api.Schema) bool {
	return isA(s, s.Query, api.Object) &&
		(s.Mutation == "" || s.Mutation != s.Query && isA(s, s.Mutation, api.Object))
}

// typesFit is rule 4.
func typesFit(s api.Schema) bool {
	for f := range fields(s) {
		if !defs.Leaf(s, f.T.Name) && !defs.Composite(s, f.T.Name) {
			return false
		}
	}
	for p := range params(s) {
		if !defs.Entry(s, p.T.Name) {
			return false
		}
	}
	return true
}

// unionsAreOfObjects is rule 7.
func unionsAreOfObjects(s api.Schema) bool {
	for _, d := range s.Defs {
		if d.Kind != api.Union {
			continue
		}
		for _, part := range d.Parts {
			if !isA(s, part, api.Object) {
				return false
			}
		}
	}
	return true
}

// isA reports whether this is the name of a definition of this kind.
func isA(s api.Schema, name string, kind int) bool {
	d, found := defs.Find(s, name)
	return found && d.Kind == kind
}

// fields yields the Fields of all definitions.
func fields(s api.Schema) iter.Seq[api.FieldDef] {
	return func(yield func(api.FieldDef) bool) {
		for _, d := range s.Defs {
			for _, f := range d.Fields {
				if !yield(f) {
					return
				}
			}
		}
	}
}

// params yields the Params of all Fields and of all Inputs.
func params(s api.Schema) iter.Seq[api.Param] {
	return func(yield func(api.Param) bool) {
		for f := range fields(s) {
			for _, p := range f.Params {
				if !yield(p) {
					return
				}
			}
		}
		for _, d := range s.Defs {
			for _, p := range d.Params {
				if !yield(p) {
					return
				}
			}
		}
	}
}
