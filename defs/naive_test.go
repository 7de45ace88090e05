package defs_test

import (
	"slices"
	"testing"

	"seine/api"
	"seine/defs"
	"seine/every"
	"seine/wrap"
)

// A told schema tells by maps, made from its last Def to its first, what the
// functions look up.
type told struct {
	s     api.Schema
	byKey map[string]api.Def
}

func tell(s api.Schema) told {
	m := map[string]api.Def{}
	for _, d := range slices.Backward(s.Defs) {
		m[d.Name] = d
	}
	for _, name := range scalarNames() {
		m[name] = api.Def{Kind: api.Scalar, Name: name}
	}
	return told{s, m}
}

// kind is that of the name; -1 if there is none.
func (x told) kind(name string) int {
	if d, ok := x.byKey[name]; ok {
		return d.Kind
	}
	return -1
}

func (x told) field(typ, name string) (api.FieldDef, bool) {
	fields := map[string]api.FieldDef{}
	kind := x.kind(typ)
	if kind == api.Object || kind == api.Face {
		for _, f := range slices.Backward(x.byKey[typ].Fields) {
			fields[f.Name] = f
		}
	}
	if kind == api.Object || kind == api.Face || kind == api.Union {
		fields["__typename"] = typeName()
	}
	f, ok := fields[name]
	return f, ok
}

func (x told) possible(name string) []string {
	var out []string
	add := func(name string, is bool) {
		if is && !slices.Contains(out, name) {
			out = append(out, name)
		}
	}
	add(name, x.kind(name) == api.Object)
	for _, d := range x.s.Defs {
		add(d.Name, x.kind(name) == api.Face && d.Kind == api.Object && slices.Contains(d.Faces, name))
	}
	for _, part := range x.byKey[name].Parts {
		add(part, x.kind(name) == api.Union && x.kind(part) == api.Object)
	}
	return out
}

func (x told) meets(a, b string) bool {
	return slices.ContainsFunc(x.possible(a), func(name string) bool { return slices.Contains(x.possible(b), name) })
}

func (x told) sub(a, b api.Type) bool {
	other := api.Type{Name: b.Name, Lists: a.Lists, Musts: a.Musts}
	if !wrap.Right(a) || !wrap.Sub(other, b) {
		return false
	}
	object := x.kind(a.Name) == api.Object && slices.Contains(x.possible(b.Name), a.Name)
	faces := x.kind(a.Name) == api.Face && x.kind(b.Name) == api.Face && slices.Contains(x.byKey[a.Name].Faces, b.Name)
	return a.Name == b.Name || object || faces
}

// pieces are Defs of few names: some names occur in several kinds, and some have
// what does not belong to their kind.
func pieces() []api.Def {
	return []api.Def{
		object("A", names("N"), field("a", "Int"), field("a", "ID")),
		object("A", names("M N M"), field("b", "N")),
		object("B", names("M"), field("__typename", "Int"), field("a", "A")),
		object("N", names("N"), field("a", "N")),
		object("Int", names("N M"), field("a", "A")),
		object("", []string{"N", ""}, field("", "Int")),
		face("N", names("M"), field("a", "Int")),
		face("N", names("N B")),
		face("M", names("N"), field("__typename", "M"), field("b", "M")),
		face("", nil, field("a", "")),
		union("U", "A", "B", "A", "Int", "U", "N", "Z"),
		union("A", "A", "B"),
		union("M", "B", "", "B"),
		full(api.Enums, "A"),
		full(api.Input, "B"),
		full(api.Union, "N"),
		full(api.Face, "U"),
		full(api.Scalar, "M"),
		full(6, "A"),
		full(-1, "U"),
	}
}

// agree holds whatever the functions tell of s against what is told plainly.
func agree(t *testing.T, s api.Schema) {
	t.Helper()
	want := tell(s)
	all := []string{"A", "B", "N", "M", "U", "Int", "", "Z"}
	for _, a := range all {
		d, ok := defs.Find(s, a)
		_, is := want.byKey[a]
		if show(d) != show(want.byKey[a]) || ok != is {
			t.Errorf("Find(%s, %q) = %s, %v", show(s), a, show(d), ok)
		}
		for _, name := range []string{"a", "b", "", "__typename", "A"} {
			f, ok := defs.Field(s, a, name)
			g, is := want.field(a, name)
			if show(f) != show(g) || ok != is {
				t.Errorf("Field(%s, %q, %q) = %s, %v", show(s), a, name, show(f), ok)
			}
		}
		if got := defs.Possible(s, a); !slices.Equal(got, want.possible(a)) {
			t.Errorf("Possible(%s, %q) = %q", show(s), a, got)
		}
		for _, b := range all {
			if got := defs.Meets(s, a, b); got != want.meets(a, b) {
				t.Errorf("Meets(%s, %q, %q) = %v", show(s), a, b, got)
			}
			for _, x := range []api.Type{typ(a, 0, 0), typ(a, 1, 2), typ(a, 2, 3), typ(a, 0, 2)} {
				y := typ(b, 1, 2)
				if got := defs.Sub(s, x, typ(b, x.Lists, 0)); got != want.sub(x, typ(b, x.Lists, 0)) {
					t.Errorf("Sub(%s, %v, %q) = %v", show(s), x, b, got)
				}
				if got := defs.Sub(s, x, y); got != want.sub(x, y) {
					t.Errorf("Sub(%s, %v, %v) = %v", show(s), x, y, got)
				}
			}
		}
	}
}

// P9.1 to P9.3: all schemas of a few Defs, in each order.
func TestEverySchema(t *testing.T) {
	for l := range every.List(3, pieces()...) {
		agree(t, of(l...))
		if t.Failed() {
			return
		}
	}
	agree(t, of(pieces()...))
	agree(t, schema(t, plain))
}

// P9.4: Meets is symmetric, and of itself whatever is possible.
func TestConsequence(t *testing.T) {
	all := []string{"A", "B", "N", "M", "U", "Int", "", "Z"}
	for l := range every.List(3, pieces()...) {
		s := of(l...)
		for k, a := range all {
			if defs.Meets(s, a, a) != (len(defs.Possible(s, a)) > 0) {
				t.Fatalf("%q meets itself, or does not, in %s", a, show(s))
			}
			for _, b := range all[:k] {
				if defs.Meets(s, a, b) != defs.Meets(s, b, a) {
					t.Fatalf("%q and %q meet one way in %s", a, b, show(s))
				}
			}
		}
	}
}
