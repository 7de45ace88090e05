package fields

import (
	"slices"

	"seine/api"
	"seine/defs"
)

// A rule reports whether a selection that stands in typ is as it asks.
type rule func(s api.Schema, typ string, x api.Sel) bool

// Rule reports whether d satisfies rule n of documents, if it is Right and
// satisfies all rules with smaller numbers, and s is sound; false if n is not from
// 9 to 11.
func Rule(s api.Schema, d api.Doc, n int) bool {
	switch n {
	case 9:
		return all(s, d, isDefined)
	case 10:
		return all(s, d, endsAtLeaf)
	case 11:
		return all(s, d, meetsFragment(d.Frags))
	}
	return false
}

// isDefined is rule 9.
func isDefined(s api.Schema, typ string, x api.Sel) bool {
	if x.Kind != api.Field {
		return true
	}
	_, defined := defs.Field(s, typ, x.Name)
	return defined
}

// endsAtLeaf is rule 10.
func endsAtLeaf(s api.Schema, typ string, x api.Sel) bool {
	if x.Kind != api.Field {
		return true
	}
	name := Within(s, typ, x)
	if len(x.Sels) > 0 {
		return !defs.Leaf(s, name)
	}
	return !defs.Composite(s, name)
}

// meetsFragment is rule 11, of a document with these fragments. Their types are
// looked up here, as graph.Frag would copy all of a fragment for each Spread.
func meetsFragment(l []api.Frag) rule {
	on := map[string]string{}
	for _, f := range slices.Backward(l) { // so that the first one of a Name counts
		on[f.Name] = f.On
	}
	return func(s api.Schema, typ string, x api.Sel) bool {
		switch x.Kind {
		case api.Inline:
			return x.On == "" || defs.Meets(s, typ, x.On)
		case api.Spread:
			return defs.Meets(s, typ, on[x.Name])
		}
		return true
	}
}
