package schema

import (
	"strings"

	"seine/api"
	"seine/defs"
	"seine/sdl"
)

// defsAreNamed is rule 1.
func defsAreNamed(s api.Schema) bool {
	for _, d := range s.Defs {
		if reserved(d.Name) || scalar(d.Name) {
			return false
		}
	}
	return sdl.Right(s) && differ(s.Defs, defName)
}

// partsAreNamed is rule 3.
func partsAreNamed(s api.Schema) bool {
	for _, d := range s.Defs {
		if !differ(d.Fields, fieldName) || !differ(d.Params, paramName) || !differ(d.Parts, itself) || !differ(d.Faces, itself) {
			return false
		}
	}
	for f := range fields(s) {
		if reserved(f.Name) || !differ(f.Params, paramName) {
			return false
		}
	}
	for p := range params(s) {
		if reserved(p.Name) {
			return false
		}
	}
	return true
}

// reserved reports whether no schema may give this name to anything of its own.
func reserved(name string) bool { return strings.HasPrefix(name, "__") }

// scalar reports whether this is the name of a Scalar: where nothing is defined,
// just those are there.
func scalar(name string) bool { return defs.Leaf(api.Schema{}, name) }

// differ reports whether no two elements have one name.
func differ[T any](l []T, name func(x T) string) bool { return len(byName(l, name)) == len(l) }

// byName returns the elements by their names.
func byName[T any](l []T, name func(x T) string) map[string]T {
	out := make(map[string]T, len(l))
	for _, x := range l {
		out[name(x)] = x
	}
	return out
}

func defName(d api.Def) string { return d.Name }

func fieldName(f api.FieldDef) string { return f.Name }

func paramName(p api.Param) string { return p.Name }

func itself(name string) string { return name }
