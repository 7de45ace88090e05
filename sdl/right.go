package sdl

import (
	"seine/api"
	"seine/letters"
	"seine/syntax"
	"seine/value"
	"seine/wrap"
)

// rightDef reports whether d has what its Kind requires, and nothing else.
func rightDef(d api.Def) bool {
	if !letters.Name(d.Name) {
		return false
	}
	switch d.Kind {
	case api.Object, api.Face:
		return syntax.All(d.Faces, letters.Name) && some(d.Fields, rightField) &&
			len(d.Parts) == 0 && len(d.Params) == 0
	case api.Union:
		return some(d.Parts, letters.Name) &&
			len(d.Faces) == 0 && len(d.Fields) == 0 && len(d.Params) == 0
	case api.Enums:
		return some(d.Parts, rightEnumValue) &&
			len(d.Faces) == 0 && len(d.Fields) == 0 && len(d.Params) == 0
	case api.Input:
		return some(d.Params, syntax.RightParam) &&
			len(d.Faces) == 0 && len(d.Fields) == 0 && len(d.Parts) == 0
	}
	return false
}

// some reports whether l has elements, and is holds for every one of them.
func some[T any](l []T, is func(x T) bool) bool { return len(l) > 0 && syntax.All(l, is) }

func rightField(f api.FieldDef) bool {
	return letters.Name(f.Name) && syntax.All(f.Params, syntax.RightParam) && wrap.Right(f.T) &&
		syntax.All(f.Dirs, syntax.Outside().Directive)
}

// rightEnumValue reports whether a value of an enum may be s: what is written as
// s in a document has to be an Enum.
func rightEnumValue(s string) bool { return value.Good(api.Value{Kind: api.Enum, S: s}) }
