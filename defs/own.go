package defs

import (
	"slices"

	"seine/api"
)

// The functions here return what they are given in memory of its own, but for
// the values in it: nobody changes values.

func ownDef(d api.Def) api.Def {
	d.Faces = slices.Clone(d.Faces)
	d.Fields = ownEach(d.Fields, ownField)
	d.Parts = slices.Clone(d.Parts)
	d.Params = slices.Clone(d.Params)
	return d
}

func ownField(f api.FieldDef) api.FieldDef {
	f.Params = slices.Clone(f.Params)
	f.Dirs = ownEach(f.Dirs, ownDir)
	return f
}

func ownDir(d api.Dir) api.Dir {
	d.Args = slices.Clone(d.Args)
	return d
}

func ownEach[T any](l []T, own func(x T) T) []T {
	out := slices.Clone(l)
	for k, x := range out {
		out[k] = own(x)
	}
	return out
}
